package check_test

import (
	"strconv"
	"strings"
	"testing"

	"cocoon/api"
	"cocoon/check"
	"cocoon/kinds"
)

// TestExamples holds those of the document.
func TestExamples(t *testing.T) {
	told(t, "a parameter", source(t, "co f(x: int) { return x; }"), api.OK, 0)
	told(t, "nothing", source(t, "co f() { return y; }"), api.ErrUnknown, 9)
}

func TestCheckRight(t *testing.T) {
	checked(t, "", api.OK)
	checked(t, decls, api.OK)
	checked(t, "struct S { a: int } enum E { X }", api.OK)
	checked(t, "co b(x: int) { let y: co a = start a(x); let z: int = await y; return z; } co a(x: int) { let y: co b = start b(x); let z: int = poll y; return z; }", api.OK)
	for _, x := range []struct{ params, body string }{
		{"", "return 0;"},
		{"x: int", "x = x; return x;"},
		{"x: int", "let y: int = x; let z: int = y; y = z; return y;"},
		{"p: P", "p.x = p.y; p.y = 1; p = P(p.x, 2); return p.x;"},
		{"b: box int, s: S", "b.* = 1; s.i.* = 2; s.b.*.b.*.p.x = 3; s.n = 4; s.d.n = b.*; return b.*;"},
		{"s: S", "let t: S = s; let u: box S = box t; let v: S = unbox u; s = v; u.*.p.x = 1; return u.*.n;"},
		{"x: int, p: P", "let m: &mut int = &mut x; m.* = 1; let n: &mut P = &mut p; n.*.x = m.*; m = &mut p.y; let o: &mut P = n; return o.*.x;"},
		{"x: int, p: P", "let r: &int = &x; r = &p.x; let q: &P = &p; r = &q.*.y; q = q; return r.*;"},
		{"b: box S", "let m: &mut S = &mut b.*; let n: &mut S = &mut m.*.b.*; n.*.p.x = 3; return 0;"},
		{"e: E", "match e { A => {} B(n) => { print n; } C(p) => { p.x = 1; } X(b) => { e = unbox b; } Y(f) => { match f { G => {} } } } return 0;"},
		{"e: E", "match e { A => { return 1; } B(n) => { return n; } C(p) => { return p.x; } X(b) => { return 0; } Y(f) => { return 0; } }"},
		{"x: int", "if x { let y: int = 1; print y; } else { let z: int = 2; print z; } return x;"},
		{"x: int", "while x { let y: int = x; x = y - 1; } return x;"},
		{"x: int", "if x { return 1; } else { if 0 { return 2; } else { return 3; } }"},
		{"x: int", "if x { return 1; } else {} return 2;"},
		{"x: int", "if x {} else { return 1; } return 2;"},
		{"x: int", "while x { return 1; } return 2;"},
		{"d: D, b: box int, x: int, c: co g, e: E", "drop d; drop b; drop x; drop c; drop e; let r: &int = &x; drop r; return 0;"},
		{"x: int", "let f: int = 1; let h: int = 2; let g: co g = start g(); let n: int = 3; return n;"},
		{"g: int", "g = 1; let c: co g = start g(); return g;"},
		{"x: int", "yield x; yield 1; print x; print -1; return x;"},
		{"b: box int, e: E", "let c: co h = start h(1, b, e); c = start h(b.*, b, e); let x: int = await c; x = poll c; x = wait x; return x;"},
		{"r: co f", "let again: co f = start f(r); r = again; return 0;"},
	} {
		inDecls(t, x.params, x.body, api.OK)
	}
}

// ends are bodies of which each ends; goesOn are such as don't.
const (
	ends = `
return 0;
return q;
x = 1; return 0;
return 0; return 1;
if x { return 1; } else { return 2; }
if x { x = 1; return 1; } else { x = 2; return 2; }
if x { if y { return 1; } else { return 2; } } else { return 3; }
if x { return 1; } else { if y { return 1; } else { return 2; } }
x = 1; if x { return 1; } else { return 2; }
match x { A => { return 1; } }
match x { A => { return 1; } B(x) => { return 1; } C => { print x; return 1; } }
match x { A => { if x { return 1; } else { return 2; } } B => { match y { C => { return 3; } } } }
if x { match x { A => { return 1; } B => { return 1; } } } else { return 1; }
print 1; match x { A => { return 1; } }
`
	goesOn = `
x = 1;
let x: int = 1;
yield 1;
print 1;
drop x;
return 0; x = 1;
return 0; print 0;
while 1 { return 0; }
while 1 {}
if x { return 1; }
if x {} else { return 1; }
if x {} else {}
if x { return 1; } else { x = 1; }
if x { x = 1; } else { return 1; }
if x { return 1; x = 1; } else { return 1; }
if x { return 1; } else { return 1; x = 1; }
if x { return 1; } else { return 1; } x = 1;
if x { if x { return 1; } } else { return 1; }
if x { return 1; } else { if x { return 1; } }
if x { while 1 { return 1; } } else { return 1; }
match x {}
match x { A => {} }
match x { A => { return 1; } B => {} }
match x { A => {} B => { return 1; } }
match x { A => { return 1; } B => { x = 1; } C => { return 1; } }
match x { A => { return 1; x = 1; } }
match x { A => { return 1; } } x = 1;
if x { match x {} } else { return 1; }
`
)

func TestEnds(t *testing.T) {
	for text, want := range map[string]bool{ends: true, goesOn: false} {
		for _, body := range strings.Split(strings.TrimSpace(text), "\n") {
			l := source(t, "co f() { "+body+" }").Fns[0].Body
			was := cloned(l)
			if got := check.Ends(l); got != want {
				t.Errorf("%s ends: %v", body, got)
			}
			if check.Ends(was) != want {
				t.Errorf("%s ends another time", body)
			}
		}
	}
	ending := []api.Stmt{{K: api.StReturn}}
	arms := []api.Arm{{Body: ending}}
	for _, l := range [][]api.Stmt{
		nil, {},
		{{K: api.StIf}},
		{{K: api.StMatch}},
		{{K: api.StMatch, Arms: []api.Arm{}, Then: ending, Else: ending}},
		{{K: api.StIf, Arms: arms}},
		{{K: api.StIf, Then: ending, Arms: arms}},
		{{K: api.StWhile, Then: ending, Else: ending, Arms: arms}},
		{{K: api.StLet, Then: ending, Else: ending, Arms: arms}},
		{{K: -1, Then: ending, Else: ending, Arms: arms}},
		{{K: 9, Then: ending, Else: ending, Arms: arms}},
		{{K: api.StReturn}, {}},
	} {
		if check.Ends(l) {
			t.Errorf("%+v ends", l)
		}
	}
}

func TestCheckEnd(t *testing.T) {
	// at the coroutine
	for _, body := range []string{
		"", "x = 1;", "let y: int = 1;", "yield x;", "print 1;", "drop x;",
		"while 1 { return 0; }", "while 1 {}",
		"if x { return 1; }", "if x {} else { return 1; }", "if x {} else {}",
		"if x { return 1; } else { x = 1; }", "if x { x = 1; } else { return 1; }",
		"if x { if x { return 1; } } else { return 1; }", "if x { return 1; } else { while 1 { return 1; } }",
		"if x { return 1; } x = 1;",
	} {
		checked(t, "co g() { return 0; } ^co f(x: int) { "+body+" } co h() { print q; }", api.ErrEnd)
	}
	for _, text := range []string{
		"^co f() {}",
		"struct S {} ^co f() {} co g() {}",
		"enum E { A, B } ^co f(x: E) { match x { A => { return 1; } B => {} } }",
		"enum E { A, B } ^co f(x: E) { match x { A => { print 1; } B => { return 2; } } }",
		"co e() { return 0; } ^co f() { let x: int = 1; } co g() { return q; }",
		// at a statement that stands behind an end
		"co f() { return 0; ^return 1; }",
		"co f() { return 0; ^print 1; }",
		"co f(x: int) { return 0; ^x = 1; return 1; }",
		"co f(x: int) { return 0; ^let y: int = 1; return 1; }",
		"co f(x: int) { return 0; ^if x {} return 1; }",
		"co f(x: int) { return 0; ^while x {} return 1; }",
		"co f(x: int) { return 0; ^yield x; return 1; }",
		"co f(x: int) { return 0; ^drop x; return 1; }",
		"enum E { A } co f(x: E) { return 0; ^match x { A => {} } return 1; }",
		"co f(x: int) { if x { return 1; } else { return 2; } ^x = 1; }",
		"enum E { A } co f(x: E) { match x { A => { return 1; } } ^drop x; return 1; }",
		"co f(x: int) { if x { return 1; ^x = 1; } return 0; }",
		"co f(x: int) { if x {} else { return 1; ^x = 1; } return 0; }",
		"co f(x: int) { while x { return 1; ^x = 1; } return 0; }",
		"enum E { A, B } co f(x: E) { match x { A => {} B => { return 1; ^drop x; } } return 1; }",
		"co f(x: int) { x = 1; return 1; ^x = 1; x = 2; return 2; x = 3; }",
		// ahead of all else that is wrong with it
		"co f() { return 0; ^q = r; }",
		"co f() { return 0; ^return q; }",
		"co f(x: int) { return 0; ^let x: Nowhere = q; }",
		"co f(x: int) { return 0; ^match q {} }",
		"co f(x: int) { if x { return 1; } else { return 2; } ^drop q; }",
	} {
		checked(t, text, api.ErrEnd)
	}
	// but not ahead of what is wrong with that one
	for _, text := range []string{
		"co f() { ^return q; return 1; }",
		"co f() { if 1 { return 0; } else { ^return q; } return 1; }",
		"co f() { ^print q; }",
		"co f() { if 1 { ^print q; } }",
	} {
		checked(t, text, api.ErrUnknown)
	}
}

// TestCheckKinds: what is wrong with declarations comes ahead of all, with its place.
func TestCheckKinds(t *testing.T) {
	const body = " co f() { return q; } co e() {}"
	for text, want := range map[string]api.Errno{
		body + " struct A {} ^struct A {}":                api.ErrTwice,
		body + " ^co f() {}":                              api.ErrTwice,
		body + " ^enum A {}":                              api.ErrVariant,
		body + " ^struct A { a: Nowhere }":                api.ErrUnknown,
		body + " ^struct A { a: &int }":                   api.ErrHold,
		body + " struct B {} ^struct A { a: A }":          api.ErrInfinite,
		body + " ^co g(x: int, x: int) {}":                api.ErrTwice,
		body + " ^co g(x: &int) { return 0; }":            api.ErrHold,
		body + " ^co g(x: box Nowhere) { return 0; }":     api.ErrUnknown,
		body + " ^co g(" + params(201) + ") {}":           api.ErrCount,
		body + " " + wide + " ^struct X { a: W, b: W }":   api.ErrLong,
		body + " " + wide + " ^co g(a: W, b: W, c: W) {}": api.ErrLong,
	} {
		checked(t, text, want)
		s := source(t, strings.Replace(text, "^", "", 1))
		err, at := kinds.Check(s)
		told(t, text, s, err, at)
	}
	s := source(t, "struct A { a: int } co f() { return q; }")
	s.Structs[0].Fields[0].Ty, s.Structs[0].At = api.Ty{}, -3
	told(t, "a field of nothing", s, api.ErrType, -3)
}

// params are so many, p0, p1, .., as a text.
func params(n int) string {
	var l []string
	for i := range n {
		l = append(l, "p"+strconv.Itoa(i)+": int")
	}
	return strings.Join(l, ", ")
}

// lets are so many, l0, l1, .., as a text.
func lets(n int) string {
	var b strings.Builder
	for i := range n {
		b.WriteString("let l" + strconv.Itoa(i) + ": int = " + strconv.Itoa(i) + "; ")
	}
	return b.String()
}

// wide is a struct of 600 words, as a text.
const wide = "struct V { a: int, b: int, c: int, d: int, e: int, f: int } struct U { a: V, b: V, c: V, d: V, e: V, f: V, g: V, h: V, i: V, j: V } struct W { a: U, b: U, c: U, d: U, e: U, f: U, g: U, h: U, i: U, j: U }"

// TestCheckFirst: coroutines are looked at in their order, each up to its end.
func TestCheckFirst(t *testing.T) {
	for text, want := range map[string]api.Errno{
		"^co f() {} co g() { return q; }":                                                 api.ErrEnd,
		"co f() { ^return q; } co g() {}":                                                 api.ErrUnknown,
		"co a() { return 0; } co f() { ^let x: int = q; } co g() {}":                      api.ErrUnknown,
		"co f() { return 0; } ^co g() { print 1; } co h() { x = 1; }":                     api.ErrEnd,
		"co f() { return 0; } co g() { ^x = 1; } co h() { x = 1; }":                       api.ErrUnknown,
		"co f(x: int) { print 1; ^print q; print r; return x.*; }":                        api.ErrUnknown,
		"co f(x: int) { print 1; ^print x.*; print q; return q; }":                        api.ErrPlace,
		"co f(x: int) { if x { ^print x.*; } else { print q; } print q; return q; }":      api.ErrPlace,
		"co f(x: int) { if x { print x; } else { ^print x.*; } print q; return q; }":      api.ErrPlace,
		"co f(x: int) { while x { print x; ^print x.*; print q; } return q; }":            api.ErrPlace,
		"co f(x: int) { while x { print x; } ^return q; }":                                api.ErrUnknown,
		"co f(x: int) { while x { if x { while x { ^yield q; } } } return x.*; }":         api.ErrUnknown,
		"co f(x: int) { if x { if x {} } else { if x {} else { ^yield q; } } return q; }": api.ErrUnknown,
	} {
		checked(t, text, want)
	}
	// places are told as they stand, whatever they are
	s := source(t, "co f() { print q; return 0; } co g() {}")
	s.Fns[0].Body[0].At, s.Fns[0].At, s.Fns[1].At = -7, 3, -8
	told(t, "a place below 0", s, api.ErrUnknown, -7)
	s.Fns = s.Fns[1:]
	told(t, "a coroutine's place below 0", s, api.ErrEnd, -8)
	s = source(t, "co f() { print 1; return q; }")
	s.Fns[0].Body[0].At, s.Fns[0].Body[1].At = 9, 9
	told(t, "two statements at one place", s, api.ErrUnknown, 9)
}
