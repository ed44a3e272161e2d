package borrows_test

import (
	"strings"
	"testing"

	"cocoon/api"
	"cocoon/build"
)

// head stands ahead of most statements that are asked about.
const head = "co f(x: int, y: int, p: P, e: E, b: box P, c: co g, d: D, u: box int) {\n"

// isMarked fails, if a coroutine, the first one of a text, is not told to be barred where a `^` stands; or is told to be so, where there is none.
func isMarked(t *testing.T, text string) {
	t.Helper()
	ahead, behind, wrong := strings.Cut(text, "^")
	s := source(t, ahead+behind+decls)
	b := build.Body(s, 0)
	if len(b.Blocks) == 0 {
		t.Fatalf("nothing is built of %s", text)
	}
	if wrong {
		checked(t, text, s, b, api.ErrBorrow, len(ahead))
	} else {
		checked(t, text, s, b, api.OK, 0)
	}
}

// areMarked does so with statements, that return at last.
func areMarked(t *testing.T, all ...string) {
	t.Helper()
	for _, text := range all {
		if !strings.Contains(text, "return") {
			text += " return 0;"
		}
		isMarked(t, head+text+" }")
	}
}

// TestExample: what is of a reference that is used later is set.
func TestExample(t *testing.T) {
	isMarked(t, "co f(x: int) { let r: &int = &x; ^x = 2; return r.*; }")
	isMarked(t, "co f(x: int) { let r: &int = &x; x = 2; return x; }")
	isMarked(t, "co f(x: int) { x = 2; let r: &int = &x; return r.*; }")
}

// TestReads: what may be changed by a reference is read.
func TestReads(t *testing.T) {
	areMarked(t,
		"let m: &mut int = &mut x; ^print x; m.* = 1;",
		"let m: &mut int = &mut x; m.* = 1; print x;",
		"let r: &int = &x; print x; y = x + x; yield x; print r.*;",
		"let m: &mut int = &mut x; print m.*; m.* = m.* + y; x = m.* * 2; print x;",
		"let m: &mut int = &mut x; ^y = x; m.* = 1;",
		"let m: &mut int = &mut x; ^y = y + x; m.* = 1;",
		"let m: &mut int = &mut x; ^y = x - y; m.* = 1;",
		"let m: &mut int = &mut x; ^y = 3 * x; m.* = 1;",
		"let m: &mut int = &mut x; ^y = x < 3; m.* = 1;",
		"let m: &mut int = &mut x; ^y = m.* == x;",
		"let m: &mut int = &mut x; ^x = m.* + x;", // it is used in this step alone
		"let m: &mut int = &mut x; ^let q: P = P(y, x); m.* = 1;",
		"let m: &mut int = &mut x; ^let k: E = E::B(x); m.* = 1;",
		"let m: &mut int = &mut x; ^let k: co g = start g(x); m.* = 1;",
		"let m: &mut int = &mut x; ^let k: box int = box x; m.* = 1;",
		"let m: &mut int = &mut x; ^let r: &int = &x; m.* = 1;",
		"let m: &mut int = &mut x; let r: &int = &m.*; ^m.* = 1; print r.*;",
		"let m: &mut int = &mut x; let n: &mut int = &mut m.*; ^let r: &int = &m.*; n.* = 1;",
		"let m: &mut int = &mut x; let n: &mut int = &mut m.*; ^print m.*; n.* = 1;",
		"let m: &mut int = &mut x; ^if x { } m.* = 1;",
		"let m: &mut int = &mut x; ^if x { m.* = 1; }",
		"let m: &mut int = &mut x; ^while x { m.* = 1; }",
		"let m: &mut int = &mut x; ^yield x; m.* = 1;",
		"let m: &mut int = &mut x; ^y = wait x; m.* = 1;",
		"let m: &mut int = &mut x; m.* = 1; return x;",
		"let m: &mut E = &mut e; ^match e { A => { } B(i) => { } C(z) => { drop m; } }",
		"let m: &mut E = &mut e; drop m; match e { A => { } B(i) => { } C(z) => { } }",
	)
	areMarked(t, // parts
		"let m: &mut P = &mut p; ^print p.x; m.*.y = 1;",
		"let m: &mut int = &mut p.x; print p.y; ^print p.x; m.* = 1;",
		"let m: &mut int = &mut p.x; ^let r: &P = &p; m.* = 1;",
		"let m: &mut int = &mut p.x; let r: &int = &p.y; m.* = r.*;",
		"let m: &mut int = &mut b.*.x; print b.*.y; ^print b.*.x; m.* = 1;",
		"let m: &mut P = &mut b.*; ^print b.*.x; m.*.y = 1;",
		"let m: &mut box P = &mut b; ^print b.*.x; m.*.*.y = 1;",
	)
}

// TestLends: a reference is made by which it may be changed that another one is of.
func TestLends(t *testing.T) {
	areMarked(t,
		"let r: &int = &x; ^let m: &mut int = &mut x; print r.*;",
		"let r: &int = &x; let m: &mut int = &mut x; m.* = 1;",
		"let m: &mut int = &mut x; ^let n: &mut int = &mut x; m.* = 1;",
		"let m: &mut int = &mut x; let n: &mut int = &mut x; n.* = 1;",
		"let m: &mut int = &mut x; let n: &mut int = &mut y; n.* = 1; m.* = 1;",
		"let m: &mut int = &mut x; m = &mut x; m.* = 1;", // the one that is set is used no more
		"let m: &mut int = &mut x; let n: &mut int = &mut m.*; n.* = 1; m.* = 2;",
		"let m: &mut int = &mut x; let n: &mut int = &mut m.*; ^m.* = 2; n.* = 1;",
		"let m: &mut int = &mut x; let n: &mut int = &mut m.*; ^let k: &mut int = &mut m.*; n.* = 1;",
		"let m: &mut int = &mut x; let n: &mut int = &mut m.*; ^let k: &mut int = &mut x; n.* = 1;",
		"let m: &mut int = &mut x; m = &mut m.*; m.* = 1;",
		"let m: &mut int = &mut x; m = &mut m.*; ^m = &mut m.*;",
		"let m: &mut int = &mut x; while y { ^m = &mut m.*; }",
		"while y { let m: &mut int = &mut x; m.* = 1; }",
		"let m: &mut int = &mut y; while p.x { m.* = 1; m = &mut x; }",
		"let m: &mut int = &mut y; while p.x { ^let n: &mut int = &mut x; m.* = 1; m = &mut x; }",
	)
	areMarked(t, // parts
		"let m: &mut int = &mut p.x; let n: &mut int = &mut p.y; m.* = 1; n.* = 2;",
		"let m: &mut int = &mut p.x; ^let n: &mut P = &mut p; m.* = 1;",
		"let m: &mut P = &mut p; ^let n: &mut int = &mut p.x; m.*.y = 1;",
		"let m: &mut P = &mut p; let n: &mut int = &mut m.*.x; let o: &mut int = &mut m.*.y; n.* = 1; o.* = 2;",
		"let m: &mut P = &mut p; let n: &mut int = &mut m.*.x; ^let o: &mut P = &mut m.*; n.* = 1;",
		"let m: &mut P = &mut b.*; let n: &mut int = &mut m.*.x; ^let o: &mut int = &mut b.*.y; n.* = 1;",
	)
}

// TestMoves: a local is moved away that a reference is of.
func TestMoves(t *testing.T) {
	areMarked(t,
		"let r: &int = &d.n; ^let z: D = d; print r.*;",
		"let r: &int = &d.n; let z: D = d; print z.n;",
		"let r: &D = &d; ^d = d; print r.*.n;",
		"let r: &int = &d.n; ^let z: N = N(r.*, d);", // it is used in this step alone
		"let r: &int = &d.n; let z: N = N(y, d);",
		"let r: &int = &d.n; ^let z: W = W(d, p); print r.*;",
		"let r: &int = &p.y; ^let z: W = W(d, p); print r.*;",
		"let r: &P = &p; ^let k: box P = box p; print r.*.x;",
		"let r: &D = &d; ^let k: E = E::C(d); print r.*.n;",
		"let r: &D = &d; ^let k: co h = start h(d, 1); print r.*.n;",
		"let r: &int = &b.*.x; ^let z: P = unbox b; print r.*;",
		"let r: &int = &b.*.x; ^let z: box P = b; print r.*;",
		"let m: &mut int = &mut u.*; ^m.* = unbox u;", // it is used in this step alone
		"let m: &mut int = &mut x; m.* = unbox u;",
		"let r: &co g = &c; ^x = await c; drop r;",
		"let r: &co g = &c; ^x = poll c; drop r;",
		"let r: &co g = &c; drop r; x = poll c; x = await c;",
		"let m: &mut int = &mut x; let n: &mut int = m; ^m = &mut x; n.* = 1;", // the move is right, but not the loan
	)
}

// TestMovesOfReferences: a reference is moved away, of which another one is made.
func TestMovesOfReferences(t *testing.T) {
	areMarked(t,
		"let m: &mut int = &mut x; let n: &mut int = &mut m.*; ^let k: &mut int = m; n.* = 1;",
		"let m: &mut int = &mut x; let n: &mut int = &mut m.*; let k: &mut int = n; k.* = 1;",
		"let m: &mut int = &mut x; let n: &mut int = m; n.* = 1; ^print x; n.* = 2;",
		"let r: &int = &x; let q: &int = &r.*; let z: &int = r; print q.*;", // it is copied
	)
}

// TestMatches: what is matched is moved out of its local in each arm.
func TestMatches(t *testing.T) {
	areMarked(t,
		"let r: &E = &e; ^match e { A => { drop r; } B(i) => { } C(z) => { } }",
		"let r: &E = &e; ^match e { A => { } B(i) => { drop r; } C(z) => { } }",
		"let r: &E = &e; ^match e { A => { } B(i) => { } C(z) => { } } drop r;",
		"let r: &E = &e; match e { A => { } B(i) => { } C(z) => { } }",
		"let r: &E = &e; drop r; match e { A => { } B(i) => { } C(z) => { } }",
		"let r: &int = &x; ^match e { A => { } B(i) => { r = &i; } C(z) => { } } print r.*;",
		"let r: &int = &x; match e { A => { } B(i) => { r = &i; print r.*; } C(z) => { } } print x;",
	)
}

// TestWrites: another value comes where a reference is of.
func TestWrites(t *testing.T) {
	areMarked(t,
		"let r: &int = &x; ^x = 2; print r.*;",
		"let r: &int = &x; x = 2; print x;",
		"let r: &int = &x; x = r.* + 1;", // it is used in this step, and no more behind it
		"let r: &int = &x; while y { ^x = r.*; }",
		"let m: &mut int = &mut x; m.* = 1; ^x = 2; m.* = 3;",
		"let m: &mut int = &mut x; m.* = 1; x = 2; m = &mut x; m.* = 3;",
		"let r: &int = &x; y = 2; print r.*;",
		"let r: &int = &x; ^x = await c; print r.*;",
		"let r: &int = &x; ^x = poll c; print r.*;",
		"let r: &int = &x; ^x = wait 1; print r.*;",
		"let r: &int = &x; x = wait r.*; r = &x; print r.*;",
		"let r: &int = &b.*.x; ^b = box p; print r.*;",
		"let r: &int = &d.n; ^d = D(1); print r.*;",
		"let r: &co g = &c; ^c = start g(1); drop r;",
		"let r: &E = &e; ^e = E::A; drop r;",
	)
	areMarked(t, // parts
		"let r: &int = &p.x; p.y = 1; ^p.x = 1; print r.*;",
		"let r: &int = &p.x; ^p = P(1, 2); print r.*;",
		"let r: &P = &p; ^p.x = 1; print r.*.y;",
		"let r: &P = &p; ^p.x = poll c; print r.*.y;",
		"let m: &mut P = &mut p; m.*.y = 1; let i: &mut int = &mut m.*.x; m.*.y = 1; ^m.*.x = 2; i.* = 3;",
		"let m: &mut P = &mut p; let i: &int = &m.*.x; ^m.*.x = wait 1; print i.*;",
		"let r: &int = &b.*.x; b.*.y = 3; ^b.*.x = 3; print r.*;",
	)
	areMarked(t, // of a reference: nothing is lost that it is of
		"let m: &mut int = &mut x; let n: &mut int = &mut m.*; m = &mut y; n.* = 1;",
		"let m: &mut int = &mut x; let n: &mut int = &mut m.*; m = &mut y; ^x = 1; n.* = 1;",
		"let r: &int = &x; let q: &int = &r.*; r = &y; print q.*;",
		"let r: &int = &x; let q: &int = r; r = &y; ^x = 1; print q.*;",
		"let r: &int = &x; let q: &int = r; r = &y; x = 1; print r.*;",
	)
}

// TestEnds: a local ends, or is dropped, that a reference is of.
func TestEnds(t *testing.T) {
	areMarked(t,
		"let r: &int = &d.n; ^drop d; print r.*;",
		"let r: &int = &d.n; drop d; print x;",
		"let r: &int = &x; ^drop x; print r.*;",
		"let r: &int = &x; ^if y { let z: int = 1; r = &z; } print r.*;",
		"let r: &int = &x; if y { let z: int = 1; r = &z; print r.*; }",
		"let r: &int = &x; if y { let z: int = 1; r = &z; r = &x; } print r.*;",
		"let r: &int = &x; ^if y { let z: D = D(1); r = &z.n; } print r.*;",
		"let r: &int = &x; if y { let z: int = 1; r = &z; return r.*; } print r.*; return 0;",
		"let r: &int = &x; ^while y { print r.*; let z: int = 1; r = &z; }",
		"let r: &int = &x; while y { let z: int = 1; r = &z; }",
		"let r: &int = &x; while y { let z: int = 1; r = &z; } r = &x; print r.*;",
		"let r: &int = &d.n; return r.*;", // it is read ahead of the end
		"let z: int = 1; let r: &int = &z; return z;",
	)
	areMarked(t, // of a reference
		"let r: &int = &x; let q: &int = r; drop r; print q.*;",
		"let r: &int = &x; let q: &int = &r.*; drop r; print q.*;",
		"let m: &mut int = &mut x; let n: &mut int = &mut m.*; drop m; n.* = 1;",
		"let n: &mut int = &mut x; if y { let m: &mut int = &mut x; n = &mut m.*; } n.* = 1;",
		"let n: &mut int = &mut x; if y { let m: &mut int = &mut x; n = &mut m.*; } ^x = 2; n.* = 1;",
		"let m: &mut int = &mut x; let n: &mut int = &mut m.*; drop m; ^drop x; n.* = 1;",
	)
}

// TestWays: a reference comes to be of something on one way alone, or is used on one way alone.
func TestWays(t *testing.T) {
	areMarked(t,
		"let r: &int = &y; if y { r = &x; } ^x = 1; print r.*;",
		"let r: &int = &y; if y { r = &x; } else { r = &p.x; } p.y = 1; ^p.x = 1; print r.*;",
		"let r: &int = &x; if y { r = &y; } ^x = 1; print r.*;",
		"let r: &int = &x; if y { r = &y; } else { r = &p.x; } x = 1; print r.*;",
		"let r: &int = &x; ^x = 1; if y { print r.*; }",
		"let r: &int = &x; x = 1; if y { r = &x; print r.*; }",
		"let r: &int = &x; if y { ^x = 1; } print r.*;",
		"let r: &int = &x; if y { x = 1; return 0; } print r.*; return 0;",
		"let r: &int = &x; if y { x = 1; r = &x; } print r.*;",
		"let r: &int = &x; if y { print r.*; } else { x = 1; }",
		"let r: &int = &y; while p.x { print r.*; r = &x; } x = 1;",
		"let r: &int = &y; while p.x { print r.*; x = 1; r = &x; ^x = 1; }",
		"let r: &int = &y; while p.x { ^x = 1; print r.*; r = &x; }",
		"let r: &int = &y; while p.x { r = &x; print r.*; x = 1; }",
		"let r: &int = &y; let m: &mut int = &mut p.y; match e { A => { r = &x; } B(i) => { m = &mut x; } C(z) => { x = 1; } } ^x = 2; print r.*;",
		"let r: &int = &y; let m: &mut int = &mut p.y; match e { A => { r = &x; } B(i) => { m = &mut x; } C(z) => { x = 1; } } x = 2; print y; y = 2;",
		"let r: &int = &y; let m: &mut int = &mut p.y; match e { A => { r = &x; } B(i) => { m = &mut x; } C(z) => { x = 1; } } print r.*; ^print x; m.* = 1;",
		"let r: &int = &x; yield 1; ^x = 1; yield 2; print r.*;",
	)
}
