package kinds_test

import (
	"reflect"
	"strings"
	"testing"

	"cocoon/api"
	"cocoon/kinds"
)

// named is a source with a struct, an enum and a coroutine of their own names, and one of each with the name of another.
func named(t *testing.T) api.Source {
	t.Helper()
	s := source(t, "struct S {} struct Both {} enum E {} enum Both {} co f() {} co both() {}")
	s.Structs = append(s.Structs, api.Struct{Name: "both"})
	s.Fns = append(s.Fns, api.Fn{Name: "F"}, api.Fn{Name: "S"})
	return s
}

func TestResolve(t *testing.T) {
	s := named(t)
	anS, anE := ty(api.TyStruct, "S"), ty(api.TyEnum, "E")
	wrong := ty(api.TyStruct, "N")
	for _, x := range []struct{ from, to api.Ty }{
		{num(), num()},
		{anS, anS},
		{ty(api.TyStruct, "E"), anE},
		{anE, anE},
		{ty(api.TyStruct, "Both"), ty(api.TyStruct, "Both")},
		{ty(api.TyEnum, "Both"), ty(api.TyEnum, "Both")},
		{ty(api.TyCo, "f"), ty(api.TyCo, "f")},
		{ty(api.TyCo, "S"), ty(api.TyCo, "S")},
		{ty(api.TyBox, "", ty(api.TyStruct, "E")), ty(api.TyBox, "", anE)},
		{ty(api.TyRef, "", ty(api.TyStruct, "E")), ty(api.TyRef, "", anE)},
		{ty(api.TyMut, "", ty(api.TyStruct, "E")), ty(api.TyMut, "", anE)},
		{ty(api.TyMut, "", ty(api.TyRef, "", ty(api.TyBox, "", ty(api.TyStruct, "E")))), ty(api.TyMut, "", ty(api.TyRef, "", ty(api.TyBox, "", anE)))},
		// what a type has beside stays as it is
		{ty(api.TyInt, "N"), ty(api.TyInt, "N")},
		{ty(api.TyBox, "N", num()), ty(api.TyBox, "N", num())},
		{ty(api.TyInt, "", ty(api.TyStruct, "E"), wrong), ty(api.TyInt, "", ty(api.TyStruct, "E"), wrong)},
		{ty(api.TyStruct, "S", ty(api.TyStruct, "E")), ty(api.TyStruct, "S", ty(api.TyStruct, "E"))},
		{ty(api.TyStruct, "E", ty(api.TyStruct, "E"), ty(api.TyUnit, "")), ty(api.TyEnum, "E", ty(api.TyStruct, "E"), ty(api.TyUnit, ""))},
		{ty(api.TyEnum, "E", ty(api.TyBox, "")), ty(api.TyEnum, "E", ty(api.TyBox, ""))},
		{ty(api.TyCo, "f", wrong), ty(api.TyCo, "f", wrong)},
		{ty(api.TyRef, "", ty(api.TyCo, "f", ty(api.TyStruct, "E", wrong))), ty(api.TyRef, "", ty(api.TyCo, "f", ty(api.TyStruct, "E", wrong)))},
	} {
		if got, err := kinds.Resolve(s, x.from); err != api.OK || !same(got, x.to) {
			t.Errorf("%+v: %+v, %v, want %+v", x.from, got, err, x.to)
		}
	}
}

// same tells whether two types are; lists without things are alike.
func same(a, b api.Ty) bool {
	if a.K != b.K || a.Name != b.Name || len(a.L) != len(b.L) {
		return false
	}
	for i := range a.L {
		if !same(a.L[i], b.L[i]) {
			return false
		}
	}
	return true
}

func TestResolveWrong(t *testing.T) {
	s := named(t)
	wrong := ty(api.TyStruct, "N")
	for _, x := range []struct {
		t   api.Ty
		err api.Errno
	}{
		{wrong, api.ErrUnknown},
		{ty(api.TyStruct, ""), api.ErrUnknown},
		{ty(api.TyStruct, "f"), api.ErrUnknown},
		{ty(api.TyStruct, "F"), api.ErrUnknown},
		{ty(api.TyEnum, "N"), api.ErrUnknown},
		{ty(api.TyEnum, "S"), api.ErrUnknown},
		{ty(api.TyEnum, "F"), api.ErrUnknown},
		{ty(api.TyCo, "g"), api.ErrUnknown},
		{ty(api.TyCo, "E"), api.ErrUnknown},
		{ty(api.TyCo, "Both"), api.ErrUnknown},
		{ty(api.TyUnit, ""), api.ErrType},
		{ty(api.TyUnit, "S"), api.ErrType},
		{ty(-1, "S"), api.ErrType},
		{ty(8, "S"), api.ErrType},
		{ty(api.TyBox, ""), api.ErrType},
		{ty(api.TyRef, ""), api.ErrType},
		{ty(api.TyMut, "S"), api.ErrType},
		{ty(api.TyBox, "", num(), num()), api.ErrType},
		{ty(api.TyRef, "", num(), num()), api.ErrType},
		{ty(api.TyMut, "", num(), num(), num()), api.ErrType},
		{ty(api.TyBox, "", wrong), api.ErrUnknown},
		{ty(api.TyRef, "", ty(api.TyEnum, "S")), api.ErrUnknown},
		{ty(api.TyMut, "", ty(api.TyCo, "g")), api.ErrUnknown},
		{ty(api.TyBox, "", ty(api.TyUnit, "")), api.ErrType},
		{ty(api.TyBox, "", ty(99, "")), api.ErrType},
		{ty(api.TyBox, "", ty(api.TyRef, "", ty(api.TyMut, ""))), api.ErrType},
		{ty(api.TyBox, "", wrong, wrong), api.ErrType},
		{ty(api.TyBox, "", ty(api.TyRef, "", ty(api.TyMut, "", wrong))), api.ErrUnknown},
	} {
		if got, err := kinds.Resolve(s, x.t); err != x.err || !reflect.DeepEqual(got, api.Ty{}) {
			t.Errorf("%+v: %+v, %v, want %v", x.t, got, err, x.err)
		}
	}
	if _, err := kinds.Resolve(api.Source{}, ty(api.TyStruct, "")); err != api.ErrUnknown {
		t.Error(err)
	}
}

// TestResolveApart: an answer shares no list with what was handed in, nor with itself, and that stays as it was.
func TestResolveApart(t *testing.T) {
	s := named(t)
	shared := []api.Ty{ty(api.TyStruct, "E", num())}
	for _, k := range []api.TyKind{api.TyInt, api.TyStruct, api.TyCo} {
		name := [...]string{api.TyStruct: "S", api.TyCo: "f"}[k]
		make := func() api.Ty {
			return ty(api.TyBox, "", ty(api.TyRef, "", ty(k, name, ty(api.TyBox, "", shared...), ty(api.TyBox, "", shared...))))
		}
		from := make()
		to, err := kinds.Resolve(s, from)
		if err != api.OK || !same(to, make()) || !reflect.DeepEqual(from, make()) {
			t.Fatalf("%+v: %+v, %v", from, to, err)
		}
		in := to.L[0].L[0]
		in.L[0].L[0].L[0].Name = "changed"
		in.L[0].L[0].Name = "changed"
		if in.L[1].L[0].Name != "E" || in.L[1].L[0].L[0].Name != "" {
			t.Errorf("two lists of %+v are one", to)
		}
		in.L[0] = api.Ty{}
		to.L[0].L[0] = api.Ty{}
		to.L[0] = api.Ty{}
		if !reflect.DeepEqual(from, make()) {
			t.Errorf("%+v was changed", from)
		}
	}
	from := ty(api.TyBox, "", ty(api.TyStruct, "E"))
	if _, err := kinds.Resolve(s, from); err != api.OK || from.L[0].K != api.TyStruct {
		t.Errorf("%+v was changed", from)
	}
}

// TestDeep: how deep a type is nested does not matter here.
func TestDeep(t *testing.T) {
	s := named(t)
	deep := ty(api.TyStruct, "E")
	wrong := ty(api.TyRef, "")
	for range 1 << 15 {
		deep, wrong = ty(api.TyBox, "", deep), ty(api.TyBox, "", wrong)
	}
	got, err := kinds.Resolve(s, deep)
	for got.K == api.TyBox {
		got = got.L[0]
	}
	if err != api.OK || !same(got, ty(api.TyEnum, "E")) {
		t.Errorf("%v, %v", got, err)
	}
	if _, err := kinds.Resolve(s, wrong); err != api.ErrType {
		t.Error(err)
	}
	if kinds.Holds(deep) || !kinds.Holds(wrong) || !kinds.Drops(s, deep) || kinds.Size(s, deep) != 1 {
		t.Error("a deep type is told as another one")
	}
	s.Structs = append(s.Structs, api.Struct{Name: "Deep", Fields: []api.Field{{Name: "a", Ty: deep}}, At: 7})
	s.Enums, s.Fns = s.Enums[:1], nil
	s.Enums[0].Variants = []api.Variant{{Name: "A"}}
	if err, at := kinds.Check(s); err != api.OK || at != 0 {
		t.Error(err, at)
	}
	s.Structs[len(s.Structs)-1].Fields[0].Ty = wrong
	if err, at := kinds.Check(s); err != api.ErrType || at != 7 {
		t.Error(err, at)
	}
	if _, err := kinds.Resolve(s, typed(t, strings.Repeat("&", 60)+"N")); err != api.ErrUnknown {
		t.Error(err)
	}
}
