package moves_test

import (
	"strings"
	"testing"

	"cocoon/api"
	"cocoon/build"
)

// head stands ahead of most statements that are asked about.
const head = "co f(n: int, d: D, e: E, c: co g, w: W, p: P, b: box D) {\n"

// isMarked fails, if a coroutine, the first one of a text, is not told to be wrong where a `^` stands; or is told to be so, where there is none.
func isMarked(t *testing.T, text string) {
	t.Helper()
	ahead, behind, wrong := strings.Cut(text, "^")
	s := source(t, ahead+behind+decls)
	b := build.Body(s, 0)
	if len(b.Blocks) == 0 {
		t.Fatalf("nothing is built of %s", text)
	}
	if wrong {
		checked(t, text, s, b, api.ErrMoved, len(ahead))
	} else {
		checked(t, text, s, b, api.OK, 0)
	}
}

// TestExample: what is dropped twice.
func TestExample(t *testing.T) {
	isMarked(t, "co f() { let d: D = D(1); drop d; ^drop d; return 0; }")
	isMarked(t, "co f() { let d: D = D(1); drop d; return 0; }")
}

// TestRows: what is moved, and what is set, one behind the other.
func TestRows(t *testing.T) {
	for _, text := range []string{
		"",
		"let x: D = d; print x.n;",
		"let x: D = d; ^print d.n;",
		"let x: D = d; ^let y: D = d; drop y;",
		"let x: D = d; d = x; print d.n;",
		"let x: D = d; d = x; ^print x.n;",
		"drop d; d = D(1); drop d;",
		"drop d; d = D(1); ^d = D(2);",
		"^d = D(2);",
		"d = d; drop d;",
		"^e = E::C(d);",
		"drop e; e = E::C(d); ^e = E::C(d);",
		"drop d; drop e; e = E::A; ^e = E::C(d);",
		"let x: E = e; e = E::A; drop x;",
		"w = w; w = w; print w.k;",
		"p = P(1, 2); p = P(p.x, n); n = 3; n = n;", // what does not drop may be lost
		"let q: P = p; p = P(1, 2); p.x = q.x;",
		"let q: P = p; ^p.x = 1;",
		"let q: P = p; n = q.x; ^n = p.x;",
		"drop n; n = 3; print n;",
		"drop n; ^print n;",
		"drop n; ^n = n + 1;",
		"drop n; let x: int = 3; ^yield n;",
		"drop n; ^yield n;",
		"drop n; ^if n { }",
		"drop n; ^while n { }",
		"drop n; ^n = wait n;",
		"drop n; n = wait 3; print n;",
		"drop w; ^w.k = 1;",
		"drop w; ^w.k = wait 1;",
		"drop w; ^w.d.n = await c;",
		"drop w; ^w.k = poll c;",
		"drop w; ^return w.k;",
		"w.d.n = await c; n = w.d.n; drop w;",
	} {
		if !strings.Contains(text, "return") {
			text += " return 0;"
		}
		isMarked(t, head+text+" }")
	}
}

// TestHolders: boxes, references and coroutines.
func TestHolders(t *testing.T) {
	for _, text := range []string{
		"let x: D = unbox b; drop x;",
		"let x: D = unbox b; ^let y: D = unbox b; drop y;",
		"let x: D = unbox b; ^print b.*.n;",
		"let x: D = unbox b; b = box x; b.*.n = 3;",
		"let x: D = unbox b; b = box x; ^drop x;",
		"^b = box d;",
		"b = b;",
		"drop d; drop b; ^b = box d;",
		"let r: &D = &d; let s: &D = r; n = r.*.n + s.*.n;",
		"drop d; ^let r: &D = &d;",
		"drop w; ^let r: &int = &w.d.n;",
		"drop w; ^let r: &mut int = &mut w.d.n;",
		"let r: &mut D = &mut d; let s: &mut D = r; s.*.n = 2;",
		"let r: &mut D = &mut d; let s: &mut D = r; ^r.*.n = 2;",
		"let r: &mut D = &mut d; let s: &mut D = r; r = s; r.*.n = 2;",
		"let r: &mut D = &mut d; r = &mut w.d; r = &mut w.l; drop r; r = &mut d;",
		"let r: &mut D = &mut d; drop r; ^print r.*.n;",
		"let r: &D = &d; drop r; ^let s: &D = r;",
		"n = await c; c = start g(1); n = poll c; n = poll c; n = await c;",
		"n = await c; ^n = await c;",
		"n = await c; ^n = poll c;",
		"n = poll c; n = await c;",
		"drop c; ^n = poll c;",
		"let k: co g = c; ^n = await c;",
		"let k: co g = c; n = await k; drop w;",
		"^c = start g(n);",
		"let k: co g = start g(1); c = c; ^c = k;",
	} {
		isMarked(t, head+text+" return 0; }")
	}
	for _, text := range []string{
		"co f(c: co f) { c = start f(c); return 0; }", // moved into the one that it is set to
		"co f(c: co f) { let k: co f = c; c = start f(k); ^k = k; return 0; }",
		"co f(c: co f) { let k: co f = start f(c); ^k = start f(c); return 0; }",
	} {
		isMarked(t, text)
	}
}

// TestIfs: what is moved, or set, on one way alone.
func TestIfs(t *testing.T) {
	for _, text := range []string{
		"if n { drop d; }",
		"if n { drop d; } ^drop d;",
		"if n { } else { drop d; } ^print d.n;",
		"if n { drop d; } else { drop d; } d = D(2); drop d;",
		"if n { drop d; } else { drop d; } ^drop d;",
		"if n { drop d; } ^d = D(2);",
		"if n { drop d; d = D(2); } drop d;",
		"if n { drop d; return 0; } drop d;",
		"if n { drop d; } else { return 0; } d = D(3);",
		"if n { drop d; } else { return 0; } ^drop d;",
		"drop d; if n { d = D(1); } else { d = D(2); } drop d;",
		"drop d; if n { d = D(1); } ^drop d;",
		"drop d; if n { d = D(1); } ^d = D(2);",
		"drop d; if n { d = D(1); } else { ^drop d; }",
		"if n { if n { drop d; } else { drop e; } drop w; } ^let r: &D = &d;",
		"let q: P = p; if n { p = q; } p = P(1, 2);",
		"let q: P = p; if n { p = q; } else { p = q; ^drop q; n = q.x; }",
		"let x: D = D(1); if n { d = d; } else { drop x; } if n { drop d; } else { ^drop x; }",
		"drop d; ^if d.n { }",
		"if p.x { drop e; ^drop e; } else { drop d; }",
	} {
		isMarked(t, head+text+" return 0; }")
	}
}

// TestWhiles: what stands in a while comes behind itself.
func TestWhiles(t *testing.T) {
	for _, text := range []string{
		"while n { ^drop d; }",
		"while n { drop d; d = D(1); }",
		"while n { drop d; return 0; }",
		"while n { drop d; if n { d = D(1); } else { return 0; } } drop d;",
		"while n { ^drop d; if n { d = D(1); } }",
		"while n { n = d.n; } drop d;",
		"^while d.n { drop d; }",
		"while n { ^n = d.n; let x: D = d; }",
		"while n { let x: D = d; d = x; }",
		"while n { let x: D = D(1); drop x; x = D(2); }",
		"while n { let x: D = D(n); }", // it ends with each round
		"while n { if n { let x: D = D(n); drop x; } }",
		"drop d; while n { d = D(1); drop d; }",
		"drop d; while n { ^d = D(1); }",
		"drop d; while n { n = 0; } ^drop d;",
		"drop d; while n { d = D(1); return 0; } ^drop d;",
		"while n { while n { ^drop d; } d = d; }",
		"while n { while n { n = n - 1; } drop d; d = D(1); }",
		"while n { n = poll c; yield n; }",
		"while n { ^n = await c; }",
		"while n { n = await c; c = start g(n); }",
		"while n { ^c = start g(n); }",
	} {
		isMarked(t, head+text+" return 0; }")
	}
}

// TestMatches: what is matched is moved out of its local.
func TestMatches(t *testing.T) {
	for _, text := range []string{
		"match e { A => { } B(y) => { print y; } C(z) => { drop z; } }",
		"match e { A => { } B(y) => { } C(z) => { } } ^match e { A => { } B(y2) => { } C(z2) => { } }",
		"match e { A => { } B(y) => { } C(z) => { } } e = E::A; drop e;",
		"match e { A => { e = E::B(1); } B(y) => { e = E::B(y); } C(z) => { e = E::C(z); } } drop e;",
		"match e { A => { e = E::B(1); } B(y) => { e = E::B(y); } C(z) => { drop z; } } ^drop e;",
		"match e { A => { e = E::B(1); } B(y) => { e = E::B(y); } C(z) => { drop z; } } ^e = E::A;",
		"match e { A => { } B(y) => { } C(z) => { return 0; } } e = E::A;",
		"match e { A => { ^drop e; } B(y) => { } C(z) => { } }",
		"match e { A => { } B(y) => { let x: E = E::B(y); e = x; } C(z) => { d = d; } }",
		"match e { A => { drop d; } B(y) => { } C(z) => { } } ^drop d;",
		"match e { A => { drop d; } B(y) => { drop d; } C(z) => { drop d; d = z; } } ^drop d;",
		"match e { A => { drop d; } B(y) => { drop d; } C(z) => { drop d; } } d = D(1);",
		"match e { A => { } B(y) => { } C(z) => { ^d = z; } }",
		"match e { A => { } B(y) => { } C(z) => { drop d; d = z; n = d.n; ^n = z.n; } }",
		"while n { ^match e { A => { } B(y) => { } C(z) => { } } }",
		"while n { match e { A => { } B(y) => { } C(z) => { } } e = E::A; }",
		"drop e; ^match e { A => { } B(y) => { } C(z) => { } }",
		"drop e; e = E::A; match e { A => { } B(y) => { } C(z) => { } }",
	} {
		isMarked(t, head+text+" return 0; }")
	}
}

// TestTwice: uses of a step come one by one: what one of them moves away is not there for those behind it, nor for the part that is set.
func TestTwice(t *testing.T) {
	for _, text := range []string{
		"^let x: W = W(d, n, d);",
		"let x: D = D(2); ^let y: W = W(d, d.n, x);",
		"let x: D = D(2); let y: W = W(d, x.n, x);",
		"let x: D = D(2); let y: W = W(d, x.n, x); ^n = x.n;",
		"let k: box int = box 3; ^k.* = unbox k;",
		"let k: box int = box 3; k.* = k.* + k.*;",
		"let k: box int = box 3; w.k = unbox k;",
	} {
		isMarked(t, head+text+" return 0; }")
	}
}
