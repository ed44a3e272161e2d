package check_test

import (
	"strings"
	"testing"

	"cocoon/api"
)

func TestTwice(t *testing.T) {
	for _, x := range []struct{ params, body string }{
		{"x: int", "^let x: int = 1; return 0;"},
		{"x: int, y: P, z: int", "^let z: int = 1; return 0;"},
		{"", "let x: int = 1; ^let x: int = 2; return 0;"},
		{"", "let x: int = 1; let y: int = 1; ^let x: box int = box 2; return 0;"},
		{"x: int", "if 1 { ^let x: int = 1; } return 0;"},
		{"x: int", "while 1 { while 1 { ^let x: int = 1; } } return 0;"},
		// of a name that is not known any more
		{"", "if 1 { let x: int = 1; } ^let x: int = 1; return 0;"},
		{"", "if 1 { let x: int = 1; } else { ^let x: int = 1; } return 0;"},
		{"", "while 1 { let x: int = 1; } if 1 { if 2 { ^let x: int = 1; } } return 0;"},
		{"", "if 1 {} else { let x: int = 1; } while 1 { ^let x: int = 1; } return 0;"},
		{"e: E", "match e { A => { let x: int = 1; } B(b) => { ^let x: int = 1; } C(c) => {} X(x) => {} Y(y) => {} } return 0;"},
		// of an arm's name
		{"e: E", "match e { A => {} B(b) => { ^let b: int = 1; } C(c) => {} X(x) => {} Y(y) => {} } return 0;"},
		{"e: E", "match e { A => {} B(b) => {} C(c) => { ^let b: int = 1; } X(x) => {} Y(y) => {} } return 0;"},
		{"e: E", "match e { A => {} B(b) => {} C(c) => {} X(x) => {} Y(y) => {} } ^let y: int = 1; return 0;"},
		{"e: E", "match e { A => {} B(b) => {} C(c) => {} X(x) => {} Y(y) => {} } while 1 { ^let c: int = 1; } return 0;"},
		// an arm's name, at its match
		{"e: E", "^match e { A => {} B(e) => {} C(c) => {} X(x) => {} Y(y) => {} } return 0;"},
		{"e: E, x: int", "^match e { A => {} B(b) => {} C(c) => {} X(x) => {} Y(y) => {} } return 0;"},
		{"e: E", "^match e { A => {} B(b) => {} C(b) => {} X(x) => {} Y(y) => {} } return 0;"},
		{"e: E", "^match e { A => {} B(b) => {} C(c) => {} X(x) => {} Y(b) => {} } return 0;"},
		{"e: E", "let y: int = 1; print y; ^match e { A => {} B(b) => {} C(c) => {} X(x) => {} Y(y) => {} } return 0;"},
		{"e: E", "if 1 { let y: int = 1; } ^match e { A => {} B(b) => {} C(c) => {} X(x) => {} Y(y) => {} } return 0;"},
		{"e: E", "^match e { A => { let c: int = 1; print c; } B(b) => {} C(c) => {} X(x) => {} Y(y) => {} } return 0;"},
		{"e: E", "^match e { A => { if 1 { let y: int = 1; print y; } } B(b) => {} C(c) => {} X(x) => {} Y(y) => {} } return 0;"},
		{"e: E", "match e { A => {} B(b) => {} C(c) => {} X(x) => { let i: E = unbox x; ^match i { A => {} B(b2) => {} C(x) => {} X(x2) => {} Y(y2) => {} } } Y(y) => {} } return 0;"},
		{"e: E", "^match e { A => {} B(b) => {} C(c) => {} X(x) => { let i: E = unbox x; match i { A => {} B(b2) => {} C(c2) => {} X(x2) => {} Y(y) => {} } } Y(y) => {} } return 0;"},
	} {
		inDecls(t, x.params, x.body, api.ErrTwice)
	}
	// each coroutine has its own
	checked(t, "co f(x: int) { let y: int = 1; return x; } co g(x: int) { let y: int = 2; return y; } co y() { let x: int = 1; ^let x: int = 1; return x; }", api.ErrTwice)
	// names of items, fields and variants are others
	checked(t, "struct S { s: int, t: int } enum E { S, T(int) } co s(t: S) { let f: E = E::T(1); match f { S => {} T(s) => { print s; } } let g: co g = start g(); return t.t; } co g() { let s: int = 1; return s; }", api.OK)
}

// TestManyNames: 200 names of a coroutine, and one more.
func TestManyNames(t *testing.T) {
	last := func(n int, text string) string { return lets(n-1) + "^" + text + " return 0;" }
	right := func(params, body string) {
		t.Helper()
		inDecls(t, params, strings.Replace(body, "^", "", 1), api.OK)
	}
	wrong := func(params, body string) {
		t.Helper()
		inDecls(t, params, body, api.ErrCount)
	}
	right("", last(200, "let x: int = 1;"))
	wrong("", last(201, "let x: int = 1;"))
	right(params(200), "return 0;")
	wrong(params(200), "^let x: int = 1; return 0;")
	right(params(199), "let x: int = 1; return 0;")
	right(params(60), last(140, "let x: int = 1;"))
	wrong(params(60), last(141, "let x: int = 1;"))
	// arms' names, and names that are not known any more
	const arms = "match e { A => {} B(b) => {} C(c) => {} X(x) => {} Y(y) => {} }"
	right("e: E", lets(195)+arms+" return 0;")
	wrong("e: E", lets(196)+"^"+arms+" return 0;")
	wrong("e: E", arms+last(196, "let z: int = 1;"))
	right("e: E", arms+last(195, "let z: int = 1;"))
	wrong("", "if 1 { "+lets(200)+" } ^let z: int = 1; return 0;")
	right("", "if 1 { "+lets(199)+" } let z: int = 1; return 0;")
	wrong("", "if 1 { "+lets(199)+" } else { let x: int = 1; while 1 { ^let z: int = 1; } } return 0;")
	wrong("e: E", "match e { A => { "+lets(198)+" } B(b) => { ^let z: int = 1; } C(c) => {} X(x) => {} Y(y) => {} } return 0;")
	wrong("e: E", "^match e { A => { "+lets(198)+" } B(b) => {} C(c) => {} X(x) => {} Y(y) => {} } return 0;")
	// without a name there is none more
	right("e: F", lets(199)+"match e { G => {} } match e { G => {} } return 0;")
	// each coroutine has its own
	checked(t, "co f() { "+lets(200)+" return 0; } co g() { "+lets(200)+" return 0; } co h("+params(200)+") { return 0; }", api.OK)
	// a name of which there are two is told as such
	inDecls(t, "", lets(200)+"^let l7: int = 1; return 0;", api.ErrTwice)
	inDecls(t, params(200), "^let p199: Nowhere = q; return 0;", api.ErrTwice)
	inDecls(t, "e: E, b: int", lets(198)+"^match e { A => {} B(b) => {} C(c) => {} X(x) => {} Y(y) => {} } return 0;", api.ErrTwice)
}

// TestKnown: where names are known, and where they are not.
func TestKnown(t *testing.T) {
	for _, x := range []struct{ params, body string }{
		{"", "^x = 1; let x: int = 1; return 0;"},
		{"", "^let x: int = x; return 0;"},
		{"", "^let x: &int = &x; return 0;"},
		{"", "let y: int = 1; ^let x: int = y + x; return 0;"},
		{"", "if 1 { let x: int = 1; } ^x = 2; return 0;"},
		{"", "if 1 { let x: int = 1; } ^return x;"},
		{"", "if 1 { let x: int = 1; } else { ^print x; } return 0;"},
		{"", "if 1 {} else { let x: int = 1; } ^print x; return 0;"},
		{"", "while 1 { let x: int = 1; print x; } ^print x; return 0;"},
		{"", "while 1 { if 1 { let x: int = 1; } ^yield x; } return 0;"},
		{"", "while 1 { if 1 { let x: int = 1; print x; } let y: int = 2; print y; ^drop x; } return 0;"},
		{"", "if 1 { let y: int = 1; while 1 { let x: int = y; y = x; } ^y = x; } return 0;"},
		{"e: E", "match e { A => {} B(b) => {} C(c) => { ^print b; } X(x) => {} Y(y) => {} } return 0;"},
		{"e: E", "match e { A => { ^print b; } B(b) => {} C(c) => {} X(x) => {} Y(y) => {} } return 0;"},
		{"e: E", "match e { A => {} B(b) => {} C(c) => {} X(x) => {} Y(y) => {} } ^drop y; return 0;"},
		{"e: E", "match e { A => {} B(b) => { let z: int = b; print z; } C(c) => {} X(x) => { ^print z; } Y(y) => {} } return 0;"},
		{"e: E", "match e { A => { let z: int = 1; print z; } B(b) => {} C(c) => {} X(x) => {} Y(y) => {} } ^print z; return 0;"},
		{"", "^match e { A => {} } return 0;"},
		{"", "^if x {} return 0;"},
		{"", "^while x { let x: int = 1; } return 0;"},
		{"", "^if x { let x: int = 1; } return 0;"},
	} {
		inDecls(t, x.params, x.body, api.ErrUnknown)
	}
	// those of another coroutine
	checked(t, "co f(x: int) { let y: int = 1; return x; } co g() { ^return x; }", api.ErrUnknown)
	checked(t, "co f(x: int) { let y: int = 1; return x; } co g() { ^return y; }", api.ErrUnknown)
	for _, x := range []struct{ params, body string }{
		{"x: int", "if 1 { while 1 { if 0 {} else { print x; } } } return x;"},
		{"", "let x: int = 1; if 1 { let y: int = x; while 1 { let z: int = x + y; print z; } print y; } else { print x; } return x;"},
		{"", "if 1 { let x: int = 1; if 1 { let y: int = x; } let z: int = x; x = z; } return 0;"},
		{"e: E", "let x: int = 1; match e { A => { print x; } B(b) => { if x { print b; } b = x; } C(c) => { c.x = x; } X(i) => { drop i; } Y(y) => { drop y; drop e; } } return x;"},
	} {
		inDecls(t, x.params, x.body, api.OK)
	}
}
