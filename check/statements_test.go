package check_test

import (
	"strings"
	"testing"

	"cocoon/api"
)

// wrongs are bodies, each with the mark of its error, of a coroutine with parameters of all kinds.
type wrongs map[api.Errno][]string

// parameters and arms are what those bodies have: of each kind of type one.
const (
	parameters = "x: int, p: P, d: D, s: S, e: E, f: F, c: co h, b: box int, bs: box S, bb: box box P"
	arms       = "A => {} B(ab) => {} C(ac) => {} X(ax) => {} Y(ay) => {} "
)

// references are names of each kind of reference.
const references = "let r: &int = &x; let rp: &P = &p; let rs: &S = &s; let rb: & box S = &bs; let m: &mut int = &mut x; let mp: &mut P = &mut p; let ms: &mut S = &mut s; let me: &mut E = &mut e; "

func all(t *testing.T, ahead string, w wrongs) {
	t.Helper()
	for want, bodies := range w {
		for _, body := range bodies {
			inDecls(t, parameters, ahead+body+" return 0;", want)
		}
	}
}

func TestLet(t *testing.T) {
	all(t, references, wrongs{
		api.OK: {
			"let n: int = r.*;", "let n: &int = r;", "let n: &mut int = m;", "let n: &P = rp;", "let n: box box P = bb;", "let n: co h = c;", "let n: & co h = &c;", "let n: &E = &e;", "let n: &mut E = me;", "let n: box E = box e;", "let n: E = E::C(p);", "let n: & box S = rb;", "let n: & box box P = &bb;",
		},
		api.ErrUnknown: {
			"^let n: Nowhere = 1;", "^let n: box Nowhere = 1;", "^let n: & box Nowhere = r;", "^let n: co nowhere = c;", "^let n: co f2 = c;", "^let n: &mut co nowhere = m;",
			"^let n: int = q;", "^let n: int = x + q;", "^let n: &int = &q;", "^let n: P = Nowhere();", "^let n: E = Nowhere::A;", "^let n: co h = start nowhere();",
		},
		api.ErrHold: {
			"^let n: & &int = r;", "^let n: &mut &int = m;", "^let n: & &mut int = r;", "^let n: box &int = b;", "^let n: box &mut int = b;", "^let n: box box &int = b;", "^let n: & box &int = r;", "^let n: box box box &mut S = b;",
			"^let n: &P = &rp;", "^let n: box int = box r;", "^let n: &mut int = &mut m;",
		},
		api.ErrType: {
			"^let n: int = p;", "^let n: P = 1;", "^let n: P = d;", "^let n: D = p;", "^let n: E = f;", "^let n: F = e;", "^let n: P = e;", "^let n: E = p;", "^let n: int = b;", "^let n: box int = x;", "^let n: box int = bb;", "^let n: box box P = bs;", "^let n: co g = c;", "^let n: co h = start g();",
			"^let n: int = r;", "^let n: &int = x;", "^let n: &int = m;", "^let n: &mut int = r;", "^let n: &int = &mut x;", "^let n: &mut int = &x;", "^let n: &int = &p;", "^let n: &int = &b;", "^let n: box int = &x;", "^let n: box int = box p;", "^let n: & box S = &s;", "^let n: &P = &p.x;", "^let n: &int = box x;",
			"^let n: int = p + 1;", "^let n: box int = 1 + 2;", "^let n: E = P(1, 2);", "^let n: P = P(1, p);", "^let n: P = E::A;", "^let n: int = E::A;", "^let n: F = E::A;", "^let n: P = await c;", "^let n: co h = poll c;", "^let n: &int = wait 1;", "^let n: int = wait p;", "^let n: int = await b;", "^let n: int = unbox bb;", "^let n: int = unbox x;",
		},
		api.ErrMove:    {"^let n: P = s.p;", "^let n: P = rp.*;", "^let n: box int = s.i;", "^let n: E = bs.*.e;", "^let n: box S = box bs.*;"},
		api.ErrPlace:   {"^let n: int = x.*;", "^let n: &int = &p.z;", "^let n: &mut int = &mut r.*;", "^let n: &mut P = &mut rs.*.p;"},
		api.ErrVariant: {"^let n: E = E::G;"},
		api.ErrCount:   {"^let n: P = P(1);", "^let n: E = E::A(1);", "^let n: co g = start g(1);"},
	})
	// types that no text has
	for _, u := range []api.Ty{{}, ty(api.TyBox, ""), ty(api.TyRef, ""), ty(api.TyBox, "", api.Ty{}), ty(-1, ""), ty(8, "")} {
		text := decls + "co f2() { let x: int = 1; let n: int = q; return 0; }"
		s := source(t, text)
		s.Fns[2].Body[1].Ty = u
		told(t, text, s, api.ErrType, strings.Index(text, "let n"))
	}
	text := decls + "co f2(e: E) { let n: E = e; let r: &E = &n; return 0; }"
	s := source(t, text)
	s.Fns[2].Body[0].Ty = ty(api.TyEnum, "E") // as it is resolved
	told(t, text, s, api.OK, 0)
	s.Fns[2].Body[1].Ty = ty(api.TyRef, "", ty(api.TyEnum, "E"))
	told(t, text, s, api.OK, 0)
	s.Fns[2].Body[0].Ty = ty(api.TyEnum, "P")
	told(t, text, s, api.ErrUnknown, strings.Index(text, "let n"))
}

func TestStSet(t *testing.T) {
	all(t, references, wrongs{
		api.OK: {
			"x = 1;", "p = P(1, 2);", "p.x = 1;", "s.p.y = x;", "b.* = 1;", "bs.*.n = 1;", "bs.*.b.*.d.n = 2;", "m.* = 1;", "mp.*.x = 1;", "ms.*.p.x = 1;", "ms.*.b.*.n = 1;", "ms.*.i.* = 2;", "r = &x;", "r = r;", "m = &mut p.x;", "rp = &s.p;", "e = E::A;", "c = start h(1, b, e);", "b = box 1;", "p.x = await c;", "m.* = poll c;", "b.* = wait 1;", "d = d;",
		},
		api.ErrUnknown: {"^q = 1;", "^q.x = 1;", "^q.* = 1;", "^x = q;", "^p.x = q;", "^b.* = q.*;"},
		api.ErrPlace: {
			"^p.z = 1;", "^x.* = 1;", "^x.x = 1;", "^e.x = 1;", "^b.x = 1;",
			// no int
			"^s.p = p;", "^s.d = d;", "^s.e = e;", "^s.b = bs;", "^s.c = c;", "^bs.* = s;", "^bb.* = b;", "^bb.*.* = p;", "^mp.* = p;", "^ms.*.p = p;", "^ms.*.b = bs;", "^me.* = e;", "^bs.*.e = e;",
			// through a shared reference
			"^r.* = 1;", "^rp.*.x = 1;", "^rs.*.n = 1;", "^rs.*.i.* = 1;", "^rs.*.b.*.n = 1;", "^rb.*.*.n = 1;", "^rp.* = p;",
			// of what is set
			"^x = x.*;", "^p.x = p.z;", "^m = &mut r.*;", "^m.* = p.z;",
		},
		api.ErrType: {
			"^x = p;", "^p = 1;", "^p = d;", "^e = f;", "^f = e;", "^e = F::G;", "^b = 1;", "^b = bb;", "^c = start g();", "^r = m;", "^m = r;", "^r = &p;", "^m = &mut p;", "^x = r;", "^x = &x;", "^p.x = p;", "^b.* = b;", "^m.* = m;", "^mp.*.x = mp;", "^bs.*.n = r;", "^x = p + 1;", "^x = unbox x;", "^x = await b;", "^bb = box b;", "^rb = &s;",
		},
		api.ErrMove:    {"^p = s.p;", "^p = rp.*;", "^e = s.e;", "^b = s.i;", "^x = s.p + 1;"},
		api.ErrHold:    {"^r = &r;", "^m = &mut m;", "^b = box r;"},
		api.ErrVariant: {"^e = E::G;"},
		api.ErrCount:   {"^p = P(1);", "^e = E::B;", "^c = start h();"},
	})
}

// TestOpers: statements that have an operand, and those that have a place.
func TestOpers(t *testing.T) {
	with := func(operand string) []string {
		return []string{"^if " + operand + " {}", "^if " + operand + " { print q; } else { print q; }", "^while " + operand + " {}", "^while " + operand + " { print q; }", "^yield " + operand + ";", "^print " + operand + ";", "if x { ^return " + operand + "; }", "while x { if x { ^print " + operand + "; } print q; }"}
	}
	w := wrongs{}
	for want, operands := range map[api.Errno][]string{
		api.ErrUnknown: {"q", "q.x", "q.*"},
		api.ErrPlace:   {"x.*", "p.z", "r.*.*", "e.x"},
		api.ErrMove:    {"s.p", "bs.*", "rp.*", "s.c", "me.*"},
		api.ErrType:    {"p", "d", "e", "f", "c", "b", "bb", "r", "rp", "m", "mp"},
	} {
		for _, o := range operands {
			w[want] = append(w[want], with(o)...)
		}
	}
	for _, o := range []string{"0", "-1", "x", "p.x", "r.*", "rs.*.b.*.n", "m.*", "b.*"} {
		w[api.OK] = append(w[api.OK], "if "+o+" {}", "if "+o+" { x = 1; } else { x = 2; }", "while "+o+" {}", "yield "+o+";", "print "+o+";", "if x { return "+o+"; }")
	}
	w[api.OK] = append(w[api.OK], "drop x;", "drop p;", "drop d;", "drop e;", "drop c;", "drop b;", "drop bb;", "drop r;", "drop mp;", "drop d; drop d;")
	w[api.ErrUnknown] = append(w[api.ErrUnknown], "^drop q;", "^drop g;", "if x { ^drop q; }")
	all(t, references, w)
}

func TestMatch(t *testing.T) {
	all(t, references, wrongs{
		api.OK: {
			"match e { " + arms + "}", "match f { G => {} }",
			"match e { A => { x = 1; } B(ab) => { x = ab; ab = x; } C(ac) => { p = ac; ac.x = p.y; } X(ax) => { e = unbox ax; ax = box e; } Y(ay) => { f = ay; match ay { G => { match f { G => {} } } } } }",
			"let e2: E = E::A; match e2 { " + arms + "}",
		},
		api.ErrUnknown: {"^match q { A => {} }", "^match q {}", "^match q { G => { print q; } }"},
		api.ErrType: {
			"^match x { " + arms + "}", "^match p {}", "^match d {}", "^match s {}", "^match c {}", "^match b {}", "^match r {}", "^match me { " + arms + "}", "^match me {}",
			// what an arm's name is
			"match e { A => {} B(ab) => { ^p = ab; } C(ac) => {} X(ax) => {} Y(ay) => {} }",
			"match e { A => {} B(ab) => {} C(ac) => { ^x = ac; } X(ax) => {} Y(ay) => {} }",
			"match e { A => {} B(ab) => {} C(ac) => {} X(ax) => { ^e = ax; } Y(ay) => {} }",
			"match e { A => {} B(ab) => {} C(ac) => {} X(ax) => {} Y(ay) => { ^e = ay; } }",
			"match e { A => {} B(ab) => {} C(ac) => {} X(ax) => {} Y(ay) => { ^print ay; } }",
		},
		api.ErrVariant: {
			"^match e {}", "^match f {}", "^match f { A => {} }", "^match f { G => {} G => {} }", "^match f { G => {} A => {} }", "^match f { Nowhere => {} }", "^match f { F => {} }",
			"^match e { A => {} B(ab) => {} C(ac) => {} X(ax) => {} }",
			"^match e { B(ab) => {} C(ac) => {} X(ax) => {} Y(ay) => {} }",
			"^match e { A => {} C(ac) => {} X(ax) => {} Y(ay) => {} }",
			"^match e { A => {} C(ac) => {} B(ab) => {} X(ax) => {} Y(ay) => {} }",
			"^match e { A => {} B(ab) => {} C(ac) => {} Y(ay) => {} X(ax) => {} }",
			"^match e { A => {} A => {} B(ab) => {} C(ac) => {} X(ax) => {} Y(ay) => {} }",
			"^match e { A => {} B(ab) => {} C(ac) => {} X(ax) => {} Y(ay) => {} G => {} }",
			"^match e { A => {} B(ab) => {} C(ac) => {} X(ax) => {} G => {} }",
			"^match e { A => {} B(ab) => {} B(ac) => {} X(ax) => {} Y(ay) => {} }",
		},
		api.ErrCount: {
			"^match f { G(x2) => {} }",
			"^match e { A(a2) => {} B(ab) => {} C(ac) => {} X(ax) => {} Y(ay) => {} }",
			"^match e { A => {} B => {} C(ac) => {} X(ax) => {} Y(ay) => {} }",
			"^match e { A => {} B(ab) => {} C(ac) => {} X => {} Y(ay) => {} }",
			"^match e { A => {} B(ab) => {} C(ac) => {} X(ax) => {} Y => {} }",
		},
	})
	// in an arm's body
	all(t, "", wrongs{
		api.ErrUnknown: {
			"match e { A => { ^print q; } B(ab) => {} C(ac) => {} X(ax) => {} Y(ay) => {} }",
			"match e { A => {} B(ab) => {} C(ac) => {} X(ax) => { ^if ab {} } Y(ay) => {} }",
			"match e { A => {} B(ab) => {} C(ac) => {} X(ax) => {} Y(ay) => { while 1 { ^print ax; } } }",
		},
		api.ErrEnd: {"match e { A => {} B(ab) => { return ab; ^print ab; } C(ac) => {} X(ax) => {} Y(ay) => {} }"},
	})
}

// TestStatementOrder: which of two errors is told.
func TestStatementOrder(t *testing.T) {
	all(t, references, wrongs{
		api.ErrTwice: {"^let x: Nowhere = 1;", "^let x: & &int = q;", "^let x: int = q;", "^let r: int = p;"},
		api.ErrUnknown: {
			// a type ahead of what is set
			"^let n: Nowhere = s.p;", "^let n: box Nowhere = x.*;", "^let n: & & Nowhere = 1;", "^let n: Nowhere = p;",
			// what is set ahead of whether its type is the same
			"^let n: P = q;", "^let n: P = x + q;", "^p = q;", "^p = q + 1;", "^x = p + q;",
			// the place ahead of what is set
			"^q = s.p;", "^q.x = p;", "^q = x.*;",
			"^match q { A => {} A(q) => {} }",
		},
		api.ErrHold:    {"^let n: & &int = q;", "^let n: box &int = s.p;", "^let n: & &mut P = 1;", "^let n: int = &r;", "^x = box r;"},
		api.ErrMove:    {"^let n: int = s.p;", "^x = s.p;", "^p.x = s.p;", "^print s.p; print q;"},
		api.ErrPlace:   {"^s.p = q;", "^s.p = 1;", "^r.* = q;", "^r.* = p;", "^r.* = s.p;", "^rp.* = q;", "^x.* = q;", "^let n: P = x.*;", "^let n: P = &mut r.*;"},
		api.ErrType:    {"^match x { A => {} A(q) => {} }", "^match p { A => { print q; } }", "^if p { print q; } else { print q; }", "^while p { print q; }"},
		api.ErrVariant: {"^match f { A(x) => { print q; } }", "^match f { G(x) => { print q; } G(x) => {} }", "^match e { A(x) => {} B => {} }"},
		api.ErrCount: {
			"^match f { G(x) => { print q; } }", // a name that there is already
			"^match e { A(n) => { print q; } B(x) => {} C(ac) => {} X(ax) => {} Y(ay) => {} }",
			"^match e { A => {} B => { print q; } C(x) => {} X(ax) => {} Y(ay) => {} }",
		},
	})
	all(t, references, wrongs{
		// an arm and all that is in it, ahead of the next one
		api.ErrUnknown: {"match e { A => { ^print q; } B => {} C(x) => {} X(ax) => {} Y(ay) => {} }", "match e { A => {} B(n) => { ^print q; } C(n) => {} X(ax) => {} Y(ay) => {} }"},
		api.ErrTwice:   {"^match e { A => {} B(x) => { print q; } C => {} X(ax) => {} Y(ay) => {} }", "^match e { A => { let n: int = 1; print n; } B(n) => {} C => {} X(ax) => {} Y(ay) => {} }"},
		api.ErrCount:   {"^match e { A => { print x; } B(n) => { let n2: int = n; print n2; } C => {} X(x) => {} Y(ay) => {} }"},
		api.ErrMove:    {"if x { ^print s.p; } else { print q; }"},
	})
}
