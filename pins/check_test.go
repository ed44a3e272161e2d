package pins_test

import (
	"strings"
	"testing"

	"cocoon/api"
)

// head stands ahead of most statements that are asked about.
const head = "co f(x: int, p: co s, q: co g, e: E, b: box co s, d: D) {\n"

// isMarked fails, if a coroutine, the first one of a text, is not told to move what is pinned where a `^` stands; or is told to do so, where there is none.
func isMarked(t *testing.T, text string) {
	t.Helper()
	ahead, behind, wrong := strings.Cut(text, "^")
	s := source(t, ahead+behind)
	all := built(t, s)
	if wrong {
		checked(t, text, s, all, all[0], api.ErrPin, len(ahead))
	} else {
		checked(t, text, s, all, all[0], api.OK, 0)
	}
}

// areMarked does so with statements, that return at last.
func areMarked(t *testing.T, all ...string) {
	t.Helper()
	for _, text := range all {
		if !strings.Contains(text, "return") {
			text += " return 0;"
		}
		isMarked(t, head+text+" }"+decls)
	}
}

// TestExample: a coroutine that yields while it holds `&mut x` of its own x is polled, and moved.
func TestExample(t *testing.T) {
	const behind = " return x; } co g(x: int) { let m: &mut int = &mut x; yield 1; m.* = 2; return x; }"
	isMarked(t, "co f(c: co g) { let x: int = poll c; ^let d: co g = c;"+behind)
	isMarked(t, "co f(c: co g) { let d: co g = c; let x: int = poll d;"+behind)
	isMarked(t, "co f(c: co g) { let x: int = poll c; let d: co g = c; return x; } co g(x: int) { let m: &mut int = &mut x; m.* = 2; yield 1; return x; }")
}

// TestRows: coroutines are polled, and moved, one behind the other.
func TestRows(t *testing.T) {
	areMarked(t,
		"let c: co s = p;",
		"x = poll p; ^let c: co s = p;",
		"x = poll p; x = poll p; print x; ^let c: co s = p;",
		"x = poll q; let c: co g = q; x = poll c; q = c;",
		"let c: co s = p; x = poll c; ^p = c;",
		"let c: co s = p; x = poll c; x = await c;",
		"x = poll p; p = start s(1); let c: co s = p;", // it was dropped
		"x = poll p; drop p; p = start s(1); let c: co s = p;",
		"x = poll p; x = await p; p = start s(1); let c: co s = p;",
		"x = poll p; x = await p; p = start s(1); x = poll p; ^let c: co s = p;",
		"x = await p; p = start s(1); let c: co s = p;",
		"x = poll p; yield x; x = wait x; ^p = p;",
		"x = poll p; let r: &co s = &p; let m: &mut co s = &mut p; drop r; drop m;", // it is not moved
		"let c: co s = start s(1); x = poll p; p = c; c = p; x = poll c; ^p = c;",
		"let c: co s = start s(1); x = poll p; ^c = p; p = c; x = poll c; p = c;",
		"let x2: int = poll p; ^let c: co s = p;",
		"let c: co h = start h(p, 1, q); x = poll c; let k: co h = c;",
	)
}

// TestMoves: a coroutine that was polled is moved into something.
func TestMoves(t *testing.T) {
	areMarked(t,
		"let c: co s = start s(1); x = poll p; ^let k: box co s = box p;",
		"let c: co s = start s(1); x = poll p; let k: box co s = box c;",
		"x = poll p; let k: co s = unbox b;",
		"let c: co s = unbox b; x = poll c; ^b = box c;",
		"let c: co s = unbox b; b = box c; x = poll p;",
		"x = poll p; ^e = E::B(p);",
		"x = poll q; e = E::C(q);",
		"x = poll p; e = E::A;",
		"x = poll p; ^let k: co h = start h(p, 1, q);",
		"x = poll q; let k: co h = start h(p, 1, q);",
		"x = poll p; let k: co s = start s(x);",
		"x = poll p; ^let k: H = H(1, q, p, d);",
		"x = poll q; let k: H = H(1, q, p, d);",
	)
}

// TestUses: of several uses of a value any one may be pinned.
func TestUses(t *testing.T) {
	const two = "let y: co s = start s(1); let z: co s = start s(2); "
	areMarked(t,
		two+"let k: K = K(p, y, z);",
		two+"x = poll p; ^let k: K = K(p, y, z);",
		two+"x = poll y; ^let k: K = K(p, y, z);",
		two+"x = poll z; ^let k: K = K(p, y, z);",
		two+"x = poll p; x = poll z; ^let k: K = K(p, y, z);",
		two+"x = poll p; x = poll y; x = poll z; ^let k: K = K(p, y, z);",
		two+"x = poll p; x = await p; p = start s(3); let k: K = K(p, y, z);",
		two+"x = poll p; let k: H = H(x, q, y, d);",
		two+"x = poll y; ^let k: H = H(x, q, y, d);",
	)
}

// TestNumbers: a number in the place of a use is not what stands at its spot, which is local 0.
func TestNumbers(t *testing.T) {
	const behind = " return x; }" + decls
	isMarked(t, "co f(c: co s) { let x: int = poll c; x = 1; x = 2 + 3; let p: P = P(4, x);"+behind)
	isMarked(t, "co f(c: co s, d: co g) { let x: int = poll c; ^let h: co h = start h(c, 2, d);"+behind)
	isMarked(t, "co f(c: co s, b: co s, d: co g) { let x: int = poll c; let h: co h = start h(b, 2, d);"+behind)
}

// TestIfs: a coroutine is polled, or set anew, on one way alone.
func TestIfs(t *testing.T) {
	areMarked(t,
		"if x { x = poll p; } ^let c: co s = p;",
		"if x { } else { x = poll p; } ^let c: co s = p;",
		"if x { x = poll q; } let c: co s = p; let k: co g = q;",
		"if x { x = poll p; } else { let c: co s = p; }",
		"if x { x = poll p; ^let c: co s = p; } else { let k: co s = p; }",
		"if x { x = poll p; p = start s(1); } let c: co s = p;",
		"if x { x = poll p; drop p; } p = start s(1); let c: co s = p;",
		"if x { x = poll p; return 0; } let c: co s = p; return 0;",
		"x = poll p; if x { p = start s(1); } ^let c: co s = p;",
		"x = poll p; if x { p = start s(1); } else { x = await p; } p = start s(2); let c: co s = p;",
		"x = poll p; if x { p = start s(1); } else { return 1; } let c: co s = p; return 0;",
		"if x { if x { if x { x = poll p; } } } ^let c: co s = p;",
		"match e { A => { x = poll p; } B(y) => { drop y; } C(z) => { drop z; } } ^let c: co s = p;",
		"match e { A => { drop p; } B(y) => { drop p; p = y; } C(z) => { x = poll z; q = z; } } let c: co s = p;",
		"match e { A => { } B(y) => { x = poll y; ^p = y; } C(z) => { x = poll z; q = z; } }",
		"match e { A => { } B(y) => { p = y; } C(z) => { x = poll p; } } ^let c: co s = p;",
	)
}

// TestWhiles: what is polled in a while comes behind itself.
func TestWhiles(t *testing.T) {
	areMarked(t,
		"while x { x = poll p; } ^let c: co s = p;",
		"while x { ^let c: co s = p; p = c; x = poll p; }",
		"while x { let c: co s = p; p = c; } x = poll p;",
		"while x { let c: co s = start s(1); x = poll c; }",
		"while x { let c: co s = start s(1); x = poll c; ^p = c; }",
		"while x { let c: co s = p; x = poll c; x = await c; p = start s(1); }",
		"while x { x = poll p; p = start s(1); } let c: co s = p;",
		"while x { p = start s(1); x = poll p; } ^let c: co s = p;",
		"while x { x = poll q; let c: co g = q; q = c; }",
		"while x { x = poll p; return 0; } let c: co s = p; return 0;",
		"x = poll p; while x { x = await p; p = start s(1); let c: co s = p; p = c; } ^e = E::B(p);",
		"x = poll p; while x { x = await p; p = start s(1); let c: co s = p; p = c; }",
		"while x { while x { x = poll p; } } ^let c: co s = p;",
		"while x { while x { ^e = E::B(p); } x = poll p; }",
	)
}

// TestOtherSteps: a coroutine that was polled goes away, but nothing is set to it.
func TestOtherSteps(t *testing.T) {
	for _, x := range []struct {
		about  string
		blocks []string
	}{
		{"a drop that is told", []string{"poll 0 2 1", "drop 2; return #0"}},
		{"an end", []string{"poll 0 2 1", "end 2; dead 2; return #0"}},
		{"an await", []string{"poll 0 2 1", "await 0 2 2", "return #0"}},
		{"an await in a ring", []string{"poll 0 2 1", "await 0 2 0"}},
		{"an enum is opened", []string{"poll 0 2 1", "open 6 1 2; return #0"}},
		{"a box is opened", []string{"poll 0 2 1", "set 2 = 9 0 0 7; return #0"}},
		{"a reference is made", []string{"poll 0 2 1", "set 15 = 6 0 0 2; return #0"}},
		{"what is of another type is moved", []string{"poll 0 2 1", "set 11 = 0 0 0 move 11; set 7 = 0 0 0 move 7; set 9 = 0 0 0 move 9; set 14 = 0 0 0 move 14; return #0"}},
		{"what is copied", []string{"poll 0 2 1", "set 15 = 0 0 0 copy 15; set 0 = 0 0 0 copy 0; return copy 0"}},
		{"it is moved to itself", []string{"poll 0 2 1", "^set 2 = 0 0 0 move 2; return #0"}},
		{"it is moved twice", []string{"poll 0 2 1", "^set 3 = 0 0 0 move 2; set 13 = 0 0 0 move 2; return #0"}},
		{"where it is moved to it was not polled", []string{"poll 0 4 1", "set 5 = 0 0 0 move 4; set 4 = 0 0 0 move 5; return #0"}},
	} {
		isPinned(t, x.about, x.blocks...)
	}
}
