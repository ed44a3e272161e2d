package build_test

import (
	"math"
	"strconv"
	"strings"
	"testing"

	"cocoon/api"
	"cocoon/build"
	"cocoon/check"
	"cocoon/tree"
)

// isRefused fails, if something is built of a source.
func isRefused(t *testing.T, about string, s api.Source) {
	t.Helper()
	for fn := -1; fn <= len(s.Fns); fn++ {
		if got := build.Body(s, fn); !alike(got, api.Body{}) {
			t.Errorf("%.300s: %d is built: %+v", about, fn, got)
		}
	}
	if got := build.Bodies(s); got != nil {
		t.Errorf("%.300s is built: %+v", about, got)
	}
}

// TestPlaces: of a place that is no coroutine's there is no body.
func TestPlaces(t *testing.T) {
	s := source(t, "co f() { return 1; } co e(x: int) { return 2; }"+decls)
	for _, fn := range []int{-1, 4, 5, math.MinInt, math.MaxInt} {
		if got := build.Body(s, fn); !alike(got, api.Body{}) {
			t.Errorf("%d is built: %+v", fn, got)
		}
	}
	for fn, name := range []string{"f", "e", "g", "h"} {
		if got := build.Body(s, fn); got.Name != name || len(got.Blocks) != 1 {
			t.Errorf("%d is %+v", fn, got)
		}
	}
}

// TestBodies: of all coroutines, in their order, each as by itself; of none there are none.
func TestBodies(t *testing.T) {
	s := source(t, "co z(e: E) { match e { A => {} B(x) => { return x; } C(p) => {} X(b) => {} Y(y) => {} Z(d) => {} } return 1; } co a() { yield 1; return 0; }"+decls)
	l := build.Bodies(s)
	if len(l) != len(s.Fns) {
		t.Fatalf("%d bodies", len(l))
	}
	for i, got := range l {
		if got.Name != s.Fns[i].Name || !alike(got, build.Body(s, i)) {
			t.Errorf("%d is %+v", i, got)
		}
	}
	for _, text := range []string{"", "struct S { a: int }", "enum E { A }"} {
		s := source(t, text)
		if got := build.Bodies(s); len(got) != 0 {
			t.Errorf("%q has bodies: %+v", text, got)
		}
		if got := build.Body(s, 0); !alike(got, api.Body{}) {
			t.Errorf("%q has a body: %+v", text, got)
		}
	}
}

// TestUnchecked: of a source that is not checked nothing is built, not of its right coroutines either.
func TestUnchecked(t *testing.T) {
	for text, want := range map[string]api.Errno{
		"struct P { a: int } struct P {}":                         api.ErrTwice,
		"struct A { a: Nowhere }":                                 api.ErrUnknown,
		"struct A { a: &int }":                                    api.ErrHold,
		"struct A { a: A }":                                       api.ErrInfinite,
		"enum A {}":                                               api.ErrVariant,
		"co x(a: int, a: int) { return 0; }":                      api.ErrTwice,
		"co f() { return 0; }":                                    api.ErrTwice,
		"co x() { return y; }":                                    api.ErrUnknown,
		"co x() { let a: Nowhere = 1; return 0; }":                api.ErrUnknown,
		"co x() { let a: int = 1; let a: int = 2; return 0; }":    api.ErrTwice,
		"co x() { if 1 { let a: int = 1; } return a; }":           api.ErrUnknown,
		"co x(a: int) { let r: & &int = &a; return 0; }":          api.ErrHold,
		"co x(a: Q) { let b: int = a; return 0; }":                api.ErrType,
		"co x(a: Q) { let b: int = a + 1; return 0; }":            api.ErrType,
		"co x(a: Q) { return a; }":                                api.ErrType,
		"co x(a: Q) { return a.y; }":                              api.ErrPlace,
		"co x(a: box Q) { let b: Q = a.*; return 0; }":            api.ErrMove,
		"co x() { let a: Q = Q(); return 0; }":                    api.ErrCount,
		"co x(a: V) { match a { L => {} } return 0; }":            api.ErrVariant,
		"co x(a: V) { match a { L => {} M => {} } return 0; }":    api.ErrCount,
		"co x(a: V) { match a { M(b) => {} L => {} } return 0; }": api.ErrVariant,
		"co x(a: int) { match a {} return 0; }":                   api.ErrType,
		"co x(a: int) { let b: int = await a; return 0; }":        api.ErrType,
		"co x() {}":                                                api.ErrEnd,
		"co x() { while 1 { return 0; } }":                         api.ErrEnd,
		"co x() { return 0; print 1; }":                            api.ErrEnd,
		"co x() { if 1 { return 0; } }":                            api.ErrEnd,
		"co x(a: V) { match a { L => { return 0; } M(b) => {} } }": api.ErrEnd,
		"co x(" + parameters(201) + ") { return 0; }":              api.ErrCount,
	} {
		s := source(t, "co f() { return 0; } struct Q { x: int } enum V { L, M(int) } "+text)
		if err, _ := check.Check(s); err != want {
			t.Errorf("%.300s: %v, want %v", text, err, want)
		}
		isRefused(t, text, s)
	}
}

// parameters are so many, as a text.
func parameters(n int) string {
	var l []string
	for i := range n {
		l = append(l, "p"+strconv.Itoa(i)+": int")
	}
	return strings.Join(l, ", ")
}

// TestUnread: of a source that is checked, but could not have been read, nothing is built.
func TestUnread(t *testing.T) {
	const text = "co f(x: int, c: co g, b: box int, e: V, be: box V) { let d: Q = Q(x); while x { yield -1; } let y: int = await c; if y { drop d; } match e { L => {} M(n) => {} } return y; } co g() { return 0; } struct Q { x: int } enum V { L, M(int) }"
	one := source(t, text)
	if l := build.Bodies(one); len(l) != 2 || !tree.Valid(one) {
		t.Fatalf("%+v", l)
	}
	let := func(s *api.Source) *api.Stmt { return &s.Fns[0].Body[0] }
	for about, spoil := range map[string]func(*api.Source){
		"an enum as it is resolved":          func(s *api.Source) { s.Fns[0].Params[3].Ty.K = api.TyEnum },
		"a type with a name too many":        func(s *api.Source) { s.Fns[0].Params[2].Ty.Name = "Q" },
		"a great coroutine":                  func(s *api.Source) { s.Fns[0].Name = "F" },
		"a coroutine without a name":         func(s *api.Source) { s.Fns[0].Name = "" },
		"a small struct":                     func(s *api.Source) { s.Structs = append(s.Structs, api.Struct{Name: "q"}) },
		"a reserved name":                    func(s *api.Source) { s.Fns[0].Name = "wait" },
		"a name that is too long":            func(s *api.Source) { s.Structs[0].Fields[0].Name = strings.Repeat("x", 25) },
		"a statement of another kind":        func(s *api.Source) { s.Fns[0].Body[1].K, s.Fns[0].Body[1].Then = 9, nil },
		"a statement of a kind below":        func(s *api.Source) { s.Fns[1].Body = append([]api.Stmt{{K: -1}}, s.Fns[1].Body...) },
		"a drop of a place with steps":       func(s *api.Source) { s.Fns[0].Body[3].Then[0].P.Path = []api.Step{{Field: "x"}} },
		"a let with an operand":              func(s *api.Source) { let(s).Op.N = 1 },
		"a let with a row":                   func(s *api.Source) { let(s).Then = []api.Stmt{{K: api.StReturn, Op: api.Oper{Num: true}}} },
		"a set with a place too many":        func(s *api.Source) { let(s).Rv.P.Name = "x" },
		"a struct with a variant":            func(s *api.Source) { let(s).Rv.Variant = "L" },
		"an await with an operand":           func(s *api.Source) { s.Fns[0].Body[2].Rv.Ops = []api.Oper{{Num: true}} },
		"a while with another row":           func(s *api.Source) { s.Fns[0].Body[1].Else = s.Fns[0].Body[1].Then },
		"a number with a place":              func(s *api.Source) { s.Fns[0].Body[1].Then[0].Op.P.Name = "x" },
		"a number that no text has":          func(s *api.Source) { s.Fns[0].Body[1].Then[0].Op.N = math.MinInt },
		"a place with a number":              func(s *api.Source) { s.Fns[0].Body[1].Op.N = 1 },
		"a match of a place with steps":      func(s *api.Source) { s.Fns[0].Body[4].P = api.Place{Name: "be", Path: []api.Step{{}}} },
		"a variant's type without a meaning": func(s *api.Source) { s.Enums[0].Variants[0].Ty.Name = "Q" },
		"too deep":                           func(s *api.Source) { s.Fns[1].Body = deep(61) },
	} {
		s := cloned(one)
		spoil(&s)
		if err, _ := check.Check(s); err != api.OK || tree.Valid(s) {
			t.Errorf("%s: %v, or it could have been read", about, err)
		}
		isRefused(t, about, s)
	}
	s := cloned(one)
	s.Fns[1].Body = deep(60)
	if l := build.Bodies(s); len(l) != 2 || len(l[1].Blocks) != 1+3*59 {
		t.Errorf("60 deep: %d bodies", len(l))
	} else {
		holds(t, "60 deep", s, l[1])
	}
}

// deep is a body so many deep, with a while in a while.
func deep(n int) []api.Stmt {
	zero := api.Oper{Num: true}
	l := []api.Stmt{{K: api.StReturn, Op: zero}}
	for range n - 1 {
		l = []api.Stmt{{K: api.StWhile, Op: zero, Then: l}, {K: api.StReturn, Op: zero}}
	}
	return l
}
