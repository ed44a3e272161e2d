package kinds_test

import (
	"strconv"
	"strings"
	"testing"

	"cocoon/api"
	"cocoon/kinds"
	"cocoon/parse"
)

func ty(k api.TyKind, name string, l ...api.Ty) api.Ty {
	return api.Ty{K: k, Name: name, L: l}
}

func num() api.Ty { return ty(api.TyInt, "") }

// source is a text's.
func source(t *testing.T, text string) api.Source {
	t.Helper()
	s, err, at := parse.Parse(text)
	if err != api.OK {
		t.Fatalf("%.200q is no source: %v at %d", text, err, at)
	}
	return s
}

// typed is a text's type.
func typed(t *testing.T, text string) api.Ty {
	t.Helper()
	return source(t, "struct S { a: "+text+" }").Structs[0].Fields[0].Ty
}

// fields are so many ones of a type, as a text, each with a name of its own.
func fields(n int, ty string) string {
	var l []string
	for i := range n {
		l = append(l, "f"+strconv.Itoa(i)+": "+ty)
	}
	return strings.Join(l, ", ")
}

// wide is a struct of that name that has so many words.
func wide(name string, words int) string {
	text := ""
	inner := fields(words%100, "int")
	if words >= 100 {
		text = "struct " + name + "Part { " + fields(100, "int") + " }\n"
		more := ""
		for i := range words / 100 {
			more += ", g" + strconv.Itoa(i) + ": " + name + "Part"
		}
		inner = strings.TrimPrefix(inner+more, ", ")
	}
	return text + "struct " + name + " { " + inner + " }\n"
}

// chain is so many structs C0, C1, .., each with the next one in it, and the last one with an end.
func chain(n int, end string) string {
	var b strings.Builder
	for i := range n - 1 {
		b.WriteString("struct C" + strconv.Itoa(i) + " { a: C" + strconv.Itoa(i+1) + " }\n")
	}
	b.WriteString("struct C" + strconv.Itoa(n-1) + " { a: " + end + " }\n")
	return b.String()
}

// TestExamples holds those of the document.
func TestExamples(t *testing.T) {
	s := source(t, "struct S { a: int, b: box S }")
	if n := kinds.Size(s, ty(api.TyStruct, "S")); n != 2 {
		t.Errorf("%d words, want 2", n)
	}
	if err, at := kinds.Check(s); err != api.OK || at != 0 {
		t.Error(err, at)
	}
	if err, at := kinds.Check(source(t, "\nstruct S { a: S }")); err != api.ErrInfinite || at != 1 {
		t.Error(err, at)
	}
	if n := kinds.Size(source(t, "struct S { a: box S }"), ty(api.TyStruct, "S")); n != 1 {
		t.Errorf("%d words, want 1", n)
	}
}

func TestPlaces(t *testing.T) {
	s := source(t, "struct A {} enum B {} co a() {} struct C {} struct A { a: int } enum C {} enum B { X } enum D {} co b() {} co a() {} co d() {}")
	s.Structs = append(s.Structs, api.Struct{})
	for _, x := range []struct {
		name             string
		aStruct, enum, f int
	}{
		{"A", 0, -1, -1},
		{"B", -1, 0, -1},
		{"C", 1, 1, -1},
		{"D", -1, 3, -1},
		{"a", -1, -1, 0},
		{"b", -1, -1, 1},
		{"d", -1, -1, 3},
		{"X", -1, -1, -1},
		{"AB", -1, -1, -1},
		{"", 3, -1, -1},
	} {
		if got := kinds.StructOf(s, x.name); got != x.aStruct {
			t.Errorf("struct %q: %d, want %d", x.name, got, x.aStruct)
		}
		if got := kinds.EnumOf(s, x.name); got != x.enum {
			t.Errorf("enum %q: %d, want %d", x.name, got, x.enum)
		}
		if got := kinds.FnOf(s, x.name); got != x.f {
			t.Errorf("coroutine %q: %d, want %d", x.name, got, x.f)
		}
	}
	for _, of := range []func(api.Source, string) int{kinds.StructOf, kinds.EnumOf, kinds.FnOf} {
		if got := of(api.Source{}, ""); got != -1 {
			t.Errorf("%d in a source without items", got)
		}
	}
}

func TestHolds(t *testing.T) {
	s := ty(api.TyStruct, "S")
	for _, x := range []struct {
		t     api.Ty
		holds bool
	}{
		{typed(t, "int"), false},
		{typed(t, "S"), false},
		{typed(t, "co f"), false},
		{typed(t, "box int"), false},
		{typed(t, "box box co f"), false},
		{typed(t, "&int"), true},
		{typed(t, "&mut S"), true},
		{typed(t, "box &int"), true},
		{typed(t, "box box &mut S"), true},
		{typed(t, "& box int"), true},
		{typed(t, "&mut box int"), true},
		{typed(t, "box "+strings.Repeat("box ", 58)+"&int"), true},
		{ty(api.TyUnit, ""), false},
		{ty(api.TyEnum, "E"), false},
		{ty(api.TyRef, ""), true},
		{ty(api.TyMut, ""), true},
		{ty(api.TyBox, ""), false},
		{ty(api.TyBox, "", s, s), false},
		{ty(api.TyBox, "", s, ty(api.TyRef, "")), true},
		{ty(api.TyInt, "", ty(api.TyMut, "")), true},
		{ty(api.TyStruct, "S", s, ty(api.TyCo, "f", s, ty(api.TyRef, "", s))), true},
		{ty(-1, "", s), false},
		{ty(8, "", ty(9, "", ty(api.TyRef, ""))), true},
	} {
		if got := kinds.Holds(x.t); got != x.holds {
			t.Errorf("%+v: %v", x.t, got)
		}
	}
}

func TestCopies(t *testing.T) {
	within := ty(api.TyMut, "", ty(api.TyBox, ""))
	for k := api.TyKind(-2); k < 12; k++ {
		wanted := k == api.TyUnit || k == api.TyInt || k == api.TyRef
		for _, x := range []api.Ty{ty(k, ""), ty(k, "S"), ty(k, "", num()), ty(k, "", within)} {
			if got := kinds.Copies(x); got != wanted {
				t.Errorf("%+v: %v", x, got)
			}
		}
	}
}
