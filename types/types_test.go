package types_test

import (
	"reflect"
	"testing"

	"cocoon/api"
	"cocoon/types"
)

func ty(k api.TyKind, name string, l ...api.Ty) api.Ty {
	return api.Ty{K: k, Name: name, L: l}
}

// all are types of which no two are the same.
func all() []api.Ty {
	num := ty(api.TyInt, "")
	return []api.Ty{
		{},
		num,
		ty(api.TyInt, "x"),
		ty(api.TyInt, "", num),
		ty(api.TyStruct, "A"),
		ty(api.TyEnum, "A"),
		ty(api.TyCo, "a"),
		ty(api.TyBox, ""),
		ty(api.TyBox, "", num),
		ty(api.TyBox, "", num, num),
		ty(api.TyRef, "", num),
		ty(api.TyBox, "", ty(api.TyStruct, "A")),
		ty(api.TyBox, "", ty(api.TyBox, "", num)),
		ty(api.TyBox, "", ty(api.TyBox, "", ty(api.TyInt, "x"))),
		ty(api.TyBox, "", ty(api.TyBox, "", num), num),
		ty(-1, "", num, ty(8, "x", num)),
	}
}

func TestSame(t *testing.T) {
	for i, a := range all() {
		for j, b := range all() {
			if types.Same(a, b) != (i == j) {
				t.Errorf("%+v and %+v are the same: %v", a, b, i != j)
			}
		}
	}
	if !types.Same(api.Ty{K: api.TyInt}, api.Ty{K: api.TyInt, L: []api.Ty{}}) {
		t.Error("lists without things are not alike")
	}
}

func TestCopied(t *testing.T) {
	for i, a := range all() {
		was, b := all()[i], types.Copied(a)
		if !types.Same(a, b) {
			t.Errorf("%+v is copied as %+v", a, b)
		}
		spoil(b)
		if !reflect.DeepEqual(a, was) {
			t.Errorf("%+v was %+v", a, was)
		}
	}
}

// spoil writes to all lists of a type.
func spoil(t api.Ty) {
	for i := range t.L {
		spoil(t.L[i])
		t.L[i] = ty(99, "spoilt")
	}
}
