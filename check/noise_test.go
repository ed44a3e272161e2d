package check_test

import (
	"reflect"
	"slices"
	"testing"

	"cocoon/api"
	"cocoon/check"
)

// fill makes anything of a type, at most so deep.
func fill(d *dice, v reflect.Value, deep int) {
	switch v.Kind() {
	case reflect.Bool:
		v.SetBool(d.roll(4) == 0)
	case reflect.Int:
		v.SetInt(int64(d.roll(20) - 2))
	case reflect.String:
		v.SetString(d.pick("", "x", "p", "b", "e", "r", "P", "E", "A", "B", "g", "h", "f", "n", "q"))
	case reflect.Struct:
		for i := range v.NumField() {
			fill(d, v.Field(i), deep)
		}
	case reflect.Slice:
		n := d.roll(3)
		if deep == 0 {
			n = 0
		}
		v.Set(reflect.MakeSlice(v.Type(), n, n+d.roll(2)))
		for i := range n {
			fill(d, v.Index(i), deep-1)
		}
	}
}

func anything[T any](d *dice) T {
	var x T
	fill(d, reflect.ValueOf(&x).Elem(), 1+d.roll(4))
	return x
}

// TestNoise: whatever is handed in, each call ends, tells nothing beside an error, tells the same again, and changes nothing of it.
func TestNoise(t *testing.T) {
	d := dice(11)
	right := source(t, decls)
	ended := map[api.Errno]int{}
	for i := range 12000 {
		s, l := right, append(names(t, right, "x: int, p: P, b: box int, e: E"), anything[[]api.Local](&d)...)
		if i%3 == 0 {
			s, l = anything[api.Source](&d), anything[[]api.Local](&d)
		}
		p, o, v := anything[api.Place](&d), anything[api.Oper](&d), anything[api.Rv](&d)
		wasS, wasL, wasP, wasO, wasV := cloned(s), cloned(l), cloned(p), cloned(o), cloned(v)
		tp, shared, ep := check.Place(s, l, p)
		to, eo := check.Oper(s, l, o)
		tv, ev := check.Set(s, l, v)
		if ep != api.OK && (shared || !alike(tp, api.Ty{})) || eo != api.OK && !alike(to, api.Ty{}) || ev != api.OK && !alike(tv, api.Ty{}) {
			t.Fatalf("%+v, %+v, %+v: %+v, %v, %v, %+v, %v, %+v, %v", p, o, v, tp, shared, ep, to, eo, tv, ev)
		}
		if again, err := check.Set(s, l, v); err != ev || !alike(again, tv) {
			t.Fatalf("%+v is %+v, %v, then %+v, %v", v, tv, ev, again, err)
		}
		ended[ev]++
		s.Fns = append(slices.Clone(s.Fns), api.Fn{Name: "noise", Params: []api.Field{{Name: "x", Ty: num()}}, Body: anything[[]api.Stmt](&d)})
		wasS.Fns = append(wasS.Fns, cloned(s.Fns[len(s.Fns)-1]))
		err, at := check.Check(s)
		if again, where := check.Check(s); again != err || where != at || err == api.OK && at != 0 {
			t.Fatalf("%+v: %v at %d, then %v at %d", s, err, at, again, where)
		}
		check.Ends(s.Fns[len(s.Fns)-1].Body)
		if !reflect.DeepEqual(s, wasS) || !reflect.DeepEqual(l, wasL) || !reflect.DeepEqual(p, wasP) || !reflect.DeepEqual(o, wasO) || !reflect.DeepEqual(v, wasV) {
			t.Fatalf("%+v, %+v, %+v, %+v, %+v", s, l, p, o, v)
		}
	}
	if len(ended) < 6 {
		t.Errorf("sets ended by %v", ended)
	}
}

// deepest is how many levels of nesting are promised.
const deepest = 1 << 16

// TestDeep: what is nested as deeply as may be, and rows and paths that are long.
func TestDeep(t *testing.T) {
	one := api.Oper{Num: true, N: 1}
	back := []api.Stmt{{K: api.StReturn, Op: one}}
	deep := func(around func([]api.Stmt) api.Stmt) api.Source {
		l := back
		for range deepest - 10 {
			l = []api.Stmt{around(l)}
		}
		return api.Source{Enums: []api.Enum{{Name: "E", Variants: []api.Variant{{Name: "A"}}}}, Fns: []api.Fn{{Name: "f", At: 5, Params: []api.Field{{Name: "e", Ty: ty(api.TyStruct, "E")}}, Body: l}}}
	}
	ifs := deep(func(l []api.Stmt) api.Stmt { return api.Stmt{K: api.StIf, Op: one, Then: l, Else: back} })
	told(t, "deep ifs", ifs, api.OK, 0)
	told(t, "deep ifs that go on", deep(func(l []api.Stmt) api.Stmt { return api.Stmt{K: api.StIf, Op: one, Then: l} }), api.ErrEnd, 5)
	told(t, "deep whiles", deep(func(l []api.Stmt) api.Stmt { return api.Stmt{K: api.StWhile, Op: one, Then: l} }), api.ErrEnd, 5)
	told(t, "deep matches", deep(func(l []api.Stmt) api.Stmt {
		return api.Stmt{K: api.StMatch, P: api.Place{Name: "e"}, Arms: []api.Arm{{Variant: "A", Body: l}}}
	}), api.OK, 0)
	if !check.Ends(ifs.Fns[0].Body) {
		t.Error("deep ifs go on")
	}
	u, p := num(), api.Place{Name: "x"}
	for range deepest - 10 {
		u = ty(api.TyBox, "", u)
		p.Path = append(p.Path, api.Step{})
	}
	l := []api.Local{{Name: "x", Ty: u}}
	if got, shared, err := check.Place(api.Source{}, l, p); err != api.OK || shared || !alike(got, num()) {
		t.Errorf("%+v, %v, %v", got, shared, err)
	}
	if got, err := check.Set(api.Source{}, l, api.Rv{K: api.RvRef, P: api.Place{Name: "x"}}); err != api.OK || !alike(got, ty(api.TyRef, "", u)) {
		t.Errorf("a reference to it: %v", err)
	}
	s := source(t, "co f(x: int) { print x; x = x; return x; }")
	print, back := s.Fns[0].Body[0], s.Fns[0].Body[2:]
	var many []api.Stmt
	for range deepest {
		many = append(many, print, s.Fns[0].Body[1])
	}
	s.Fns[0].Body = append(many, back...)
	told(t, "a long row", s, api.OK, 0)
}
