package mir_test

import (
	"reflect"
	"strings"
	"testing"

	"cocoon/api"
	"cocoon/mir"
	"cocoon/types"
)

// fill makes anything of a type, at most so deep.
func fill(d *dice, v reflect.Value, deep int) {
	switch v.Kind() {
	case reflect.Bool:
		v.SetBool(d.roll(3) == 0)
	case reflect.Int:
		v.SetInt(int64(d.roll(14) - 3))
	case reflect.String:
		v.SetString([]string{"", "", "x", "P", "E", "S", "g", "h", "f"}[d.roll(9)])
	case reflect.Struct:
		for i := range v.NumField() {
			fill(d, v.Field(i), deep)
		}
	case reflect.Slice:
		n := d.roll(4)
		if deep == 0 {
			n = 0
		}
		v.Set(reflect.MakeSlice(v.Type(), n, n+d.roll(2)))
		for i := range n {
			fill(d, v.Index(i), deep-1)
		}
	}
}

func anything[T any](d *dice) T {
	var x T
	fill(d, reflect.ValueOf(&x).Elem(), 1+d.roll(4))
	return x
}

// TestNoise: whatever is handed in, each call ends, tells what the model tells, and nothing beside an error; and nothing that was handed in changes.
func TestNoise(t *testing.T) {
	d := dice(11)
	right := source(t, decls)
	for i := range 20000 {
		s, b := right, anything[api.Body](&d)
		if i%3 == 0 {
			s = anything[api.Source](&d)
		}
		if i%2 == 0 {
			b.Locals = append(b.Locals, body(t, "").Locals[:1+d.roll(21)]...)
		}
		x, v, e := anything[api.Spot](&d), anything[api.Value](&d), anything[api.Tm](&d)
		wasS, wasB, wasX, wasV, wasE := cloned(s), cloned(b), cloned(x), cloned(v), cloned(e)
		want, shared, ok := model{s, b}.spot(x)
		wrong := api.OK
		if !ok {
			want, wrong = api.Ty{}, api.ErrPlace
		}
		typeIs(t, s, b, x, want, shared, wrong)
		want, wrong = model{s, b}.value(v)
		valueIs(t, s, b, v, want, wrong)
		agrees(t, s, b)
		if got := mir.Succ(e); len(got) != len(e.To) {
			t.Errorf("%+v goes to %v", e, got)
		}
		if t.Failed() || !reflect.DeepEqual(s, wasS) || !reflect.DeepEqual(b, wasB) || !reflect.DeepEqual(x, wasX) || !reflect.DeepEqual(v, wasV) || !reflect.DeepEqual(e, wasE) {
			t.Fatalf("%+v, %+v, %+v, %+v, %+v", s, b, x, v, e)
		}
	}
}

// TestApart: an answer shares nothing with what was handed in.
func TestApart(t *testing.T) {
	s, b := source(t, decls), body(t, "")
	b.Locals = append(b.Locals, api.Local{Ty: ty(api.TyBox, "", ty(api.TyBox, "", ty(api.TyBox, "", num())))}, api.Local{Ty: ty(99, "", num(), ty(api.TyBox, "", num()))})
	s.Structs[0].Fields[0].Ty = ty(api.TyBox, "", ty(api.TyBox, "", num()))
	wasS, wasB := cloned(s), cloned(b)
	apart := func(u api.Ty) {
		t.Helper()
		spoilType(u)
		if !reflect.DeepEqual(s, wasS) || !reflect.DeepEqual(b, wasB) {
			t.Fatal("a type is shared")
		}
	}
	for i := range b.Locals {
		for _, path := range [][]int{nil, {-1}, {-1, -1}, {0}, {3}, {0, 0}} {
			x := api.Spot{Local: i, Path: path}
			u, _, _ := mir.Type(s, b, x)
			apart(u)
			for _, v := range []api.Value{{K: api.RvRef, S: x}, {K: api.RvMut, S: x}, {K: api.RvUnbox, S: x}} {
				u, _ := mir.Value(s, b, v)
				apart(u)
			}
			for _, k := range []api.RvKind{api.RvUse, api.RvBox} {
				for _, move := range []bool{false, true} {
					u, _ := mir.Value(s, b, api.Value{K: k, Uses: []api.Use{{Move: move, S: x}}})
					apart(u)
				}
			}
		}
	}
}

func spoilType(t api.Ty) {
	for i := range t.L {
		spoilType(t.L[i])
		t.L[i] = ty(98, "spoilt")
	}
}

// deepest is how many levels of nesting are promised, and some less.
const deepest = 1<<16 - 10

// TestDeep: what is nested as deeply as may be, and paths, rows and lists that are long.
func TestDeep(t *testing.T) {
	s := source(t, "struct L { n: int, next: box L } struct W {}")
	u, path, long := num(), []int(nil), []int(nil)
	for range deepest {
		u = ty(api.TyBox, "", u)
		path, long = append(path, -1), append(long, 1, -1)
	}
	b := api.Body{Locals: []api.Local{{Name: "x", Ty: u}, {Name: "y", Ty: typed(t, s, "L")}, {Name: "w", Ty: typed(t, s, "W")}, {Ty: num()}}}
	typeIs(t, s, b, api.Spot{Path: path}, num(), false, api.OK)
	typeIs(t, s, b, api.Spot{Path: append(path[:len(path):len(path)], -1)}, api.Ty{}, false, api.ErrPlace)
	typeIs(t, s, b, api.Spot{Local: 1, Path: long}, b.Locals[1].Ty, false, api.OK)
	valueIs(t, s, b, api.Value{K: api.RvMut}, ty(api.TyMut, "", u), api.OK)
	valueIs(t, s, b, api.Value{K: api.RvUnbox}, u.L[0], api.OK)
	wide := api.Value{K: api.RvMake, Which: 1}
	for range 100000 {
		s.Structs[1].Fields = append(s.Structs[1].Fields, api.Field{Name: "f", Ty: typed(t, s, "int")})
		wide.Uses = append(wide.Uses, api.Use{Num: true})
	}
	valueIs(t, s, b, wide, b.Locals[2].Ty, api.OK)
	set := api.In{K: api.InSet, S: api.Spot{Path: path}, V: api.Value{Uses: []api.Use{{S: api.Spot{Local: 1, Path: append(long, 0)}}}}}
	b.Blocks = []api.Block{{Ins: []api.In{set, {K: api.InSet, S: api.Spot{Local: 2}, V: wide}}, End: api.Tm{To: []int{0}}}}
	judged(t, "what is deep", s, b, true)
	const blocks = 100000
	for range blocks {
		b.Blocks = append(b.Blocks, api.Block{Ins: []api.In{{K: api.InLive}, {K: api.InDead}}, End: api.Tm{To: []int{len(b.Blocks)}}})
	}
	judged(t, "what is long", s, b, true)
	text := mir.Text(b)
	if n := strings.Count(text, "\n"); n != 1+4+4+4*blocks {
		t.Errorf("%d lines", n)
	}
	wide.Uses = wide.Uses[1:]
	for range blocks {
		if u, err := mir.Value(s, b, wide); err != api.ErrCount || !types.Same(u, api.Ty{}) {
			t.Fatalf("%+v, %v", u, err)
		}
	}
}
