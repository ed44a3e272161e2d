package kinds_test

import (
	"strconv"
	"strings"
	"testing"

	"cocoon/api"
	"cocoon/kinds"
)

// sizes fails, if structs and enums of a text have not these sizes: each as a name and a number.
func sizes(t *testing.T, text string, wanted map[string]int) {
	t.Helper()
	s := source(t, text)
	for name, n := range wanted {
		if got := kinds.Size(s, ty(api.TyStruct, name)); got != n {
			t.Errorf("%.100q: %s has %d words, want %d", text, name, got, n)
		}
		if kinds.StructOf(s, name) >= 0 {
			continue
		}
		if got := kinds.Size(s, ty(api.TyEnum, name)); got != n {
			t.Errorf("%.100q: enum %s has %d words, want %d", text, name, got, n)
		}
	}
}

func TestSize(t *testing.T) {
	sizes(t, `
struct None {}
struct One { a: int }
struct Five { a: int, b: box Five, c: co f, d: &None, e: &mut Four }
struct Many { a: Five, b: None, c: int, d: Five }
struct In { a: Choice, b: Many, c: Empty }
struct Odd { a: Nowhere, b: int }
enum Empty {}
enum Units { A, B, C }
enum Choice { A, B(Many), C(int), D(Five) }
enum Nothing { A(None), B }
enum Four { A(int), B(Three), C(int) }
struct Three { a: One, b: One, c: One }
enum Outer { A(Four) }
co f(a: Many) {}
`, map[string]int{"None": 0, "One": 1, "Five": 5, "Many": 11, "In": 24, "Odd": 1, "Empty": 1, "Units": 1,
		"Choice": 12, "Nothing": 1, "Four": 4, "Three": 3, "Outer": 5, "Nowhere": 0, "": 0})
	s := source(t, "struct S { a: int, b: int } enum E { A(S) } co f(s: S) {}")
	for _, x := range []struct {
		t     api.Ty
		words int
	}{
		{ty(api.TyUnit, ""), 0},
		{ty(api.TyUnit, "S", num()), 0},
		{num(), 1},
		{ty(api.TyInt, "S", num(), num()), 1},
		{typed(t, "box S"), 1},
		{typed(t, "&S"), 1},
		{typed(t, "&mut S"), 1},
		{typed(t, "co f"), 1},
		{typed(t, "co nowhere"), 1},
		{ty(api.TyBox, ""), 1},
		{ty(api.TyRef, "S"), 1},
		{ty(api.TyStruct, "S", num()), 2},
		{ty(api.TyStruct, "E", num()), 3},
		{ty(api.TyEnum, "E"), 3},
		{ty(api.TyEnum, "S"), 0},
		{ty(api.TyEnum, "f"), 0},
		{ty(api.TyStruct, "f"), 0},
		{ty(-1, "S"), 1},
		{ty(8, ""), 1},
	} {
		if got := kinds.Size(s, x.t); got != x.words {
			t.Errorf("%+v has %d words, want %d", x.t, got, x.words)
		}
	}
}

// TestSizeFirst: the first one of a name counts, and a struct rather than an enum; a type of a variant that is an enum's by its kind is one.
func TestSizeFirst(t *testing.T) {
	s := source(t, `
struct A { a: int, b: int } struct A {} enum A { X }
enum B { X(A) } enum B { X } struct InA { a: A, b: B }
`)
	s.Structs = append(s.Structs, api.Struct{Name: "ByKind", Fields: []api.Field{{Ty: ty(api.TyEnum, "A")}, {Ty: ty(api.TyEnum, "InA")}, {Ty: ty(api.TyUnit, "A")}, {Ty: ty(99, "A")}}})
	for name, n := range map[string]int{"A": 2, "B": 3, "InA": 5, "ByKind": 2} {
		if got := kinds.Size(s, ty(api.TyStruct, name)); got != n {
			t.Errorf("%s has %d words, want %d", name, got, n)
		}
	}
	if got := kinds.Size(s, ty(api.TyEnum, "A")); got != 1 {
		t.Errorf("enum A has %d words, want 1", got)
	}
}

// TestSizeMost: sizes go up to 1025, and no further.
func TestSizeMost(t *testing.T) {
	for _, n := range []int{1, 99, 100, 101, 1023, 1024} {
		sizes(t, wide("A", n)+"struct B { a: A } enum E { X(A), Y(int) } struct Two { a: A, b: A }",
			map[string]int{"A": n, "B": n, "E": n + 1, "Two": min(2*n, 1025)})
	}
	for _, n := range []int{1025, 1026, 1200, 5000} {
		sizes(t, wide("A", n)+"struct B { a: A } enum E { X(A), Y(int) } struct Two { a: A, b: int } enum F { X(E) }",
			map[string]int{"A": 1025, "B": 1025, "E": 1025, "Two": 1025, "F": 1025})
	}
	text := "struct D0 { a: int, b: int }\n"
	wanted := map[string]int{}
	for i := range 100 {
		text += "struct D" + strconv.Itoa(i+1) + " { a: D" + strconv.Itoa(i) + ", b: D" + strconv.Itoa(i) + " }\n"
		wanted["D"+strconv.Itoa(i)] = min(1<<min(i+1, 20), 1025)
	}
	sizes(t, text, wanted)
}

// TestSizeRounds: where types stand in one another, there are as many rounds as structs and enums; each goes by what the one ahead told.
func TestSizeRounds(t *testing.T) {
	sizes(t, "struct S { a: S }", map[string]int{"S": 0})
	sizes(t, "struct S { a: S, b: int }", map[string]int{"S": 1})
	sizes(t, "struct S { b: int, a: S }", map[string]int{"S": 1})
	sizes(t, "struct S { a: S, b: int } struct T {}", map[string]int{"S": 2, "T": 0})
	sizes(t, "enum T {} struct S { a: S, b: int } enum U {}", map[string]int{"S": 3, "T": 1})
	sizes(t, "struct T {} struct T {} struct S { a: S, b: int } co f() {} co g() {}", map[string]int{"S": 3})
	sizes(t, "enum E { A(E) }", map[string]int{"E": 1})
	sizes(t, "enum E { A(E), B(int) }", map[string]int{"E": 2})
	sizes(t, "enum E { A(E), B(int) } struct T {}", map[string]int{"E": 3})
	sizes(t, "enum E { A(E) } struct S { e: E }", map[string]int{"E": 2, "S": 1})
	sizes(t, "struct A { a: B, b: int } struct B { a: A, b: int }", map[string]int{"A": 2, "B": 2})
	sizes(t, "struct A { a: B } struct B { a: A, b: int }", map[string]int{"A": 1, "B": 1})
	sizes(t, "struct A { a: B } struct B { a: A, b: int } struct C { a: A, b: B }", map[string]int{"A": 1, "B": 2, "C": 2})
	sizes(t, "struct A { a: E, b: int } enum E { X(A), Y(int) }", map[string]int{"A": 3, "E": 2})
	sizes(t, "struct A { a: A, b: B } struct B { b: C } struct C { c: D } struct D { d: int }", map[string]int{"A": 1, "B": 1, "C": 1, "D": 1})
	sizes(t, "struct A { a: A, b: B } struct B { b: C } struct C { c: D } struct D { d: int } enum E {}", map[string]int{"A": 2})
	sizes(t, "struct In { a: S, b: int } struct S { a: S, b: S, c: int }", map[string]int{"S": 3, "In": 2})
	for n := range 12 {
		sizes(t, "struct S { a: S, b: S, c: int }"+strings.Repeat(" struct T {}", n), map[string]int{"S": min(2<<n-1, 1025)})
	}
	sizes(t, "struct S { a: S, b: int }"+strings.Repeat(" struct T {}", 1022), map[string]int{"S": 1023})
	sizes(t, "struct S { a: S, b: int }"+strings.Repeat(" struct T {}", 1024), map[string]int{"S": 1025})
	sizes(t, "struct S { a: S, b: int }"+strings.Repeat(" struct T {}", 3000), map[string]int{"S": 1025})
}

func TestOffset(t *testing.T) {
	text := `
struct S { a: int, b: E, c: None, d: &S, e: In, f: box S, g: Nowhere, h: int }
struct None {}
struct In { a: int, b: int, c: int }
enum E { A, B(In) }
struct E2 {} enum E2 { A(int), B }
struct S { a: int, b: In, c: int, d: int, e: int, f: int, g: int, h: int, i: int }
enum Fielded { A(int), B(int) }
co f(a: int, b: int) {}
`
	s := source(t, text)
	anS := ty(api.TyStruct, "S")
	for i, n := range []int{0, 1, 5, 5, 6, 9, 10, 10} {
		if got := kinds.Offset(s, anS, i); got != n {
			t.Errorf("field %d: %d, want %d", i, got, n)
		}
	}
	for _, i := range []int{-1 << 63, -1, 8, 9, 1<<63 - 1} {
		if got := kinds.Offset(s, anS, i); got != 0 {
			t.Errorf("field %d: %d, want none", i, got)
		}
	}
	for _, x := range []api.Ty{ty(api.TyEnum, "S"), ty(api.TyEnum, "Fielded"), ty(api.TyStruct, "Fielded"), ty(api.TyStruct, "Nowhere"), ty(api.TyStruct, "f"), ty(api.TyCo, "f"),
		ty(api.TyBox, "S", anS), ty(api.TyRef, "", anS), ty(api.TyInt, "S"), ty(api.TyUnit, "S"), ty(-1, "S"), ty(8, "S"), ty(api.TyStruct, "None"), ty(api.TyStruct, "")} {
		for i := range 3 {
			if got := kinds.Offset(s, x, i); got != 0 {
				t.Errorf("field %d of %+v: %d, want none", i, x, got)
			}
		}
	}
}

// TestOffsetMost: offsets go up to 1025, and no further; those of what has no end go by the rounds of its types.
func TestOffsetMost(t *testing.T) {
	for _, n := range []int{1, 512, 513, 1023, 1024, 1025, 3000} {
		s := source(t, wide("A", n)+"struct B { a: A, b: A, c: int }")
		for i := range 3 {
			if got := kinds.Offset(s, ty(api.TyStruct, "B"), i); got != min(i*n, 1025) {
				t.Errorf("%d words: field %d at %d", n, i, got)
			}
		}
	}
	s := source(t, "struct S { a: S, b: int, c: T, d: int } struct T { a: int, b: S }")
	for i, n := range []int{0, 5, 6, 9} {
		if got := kinds.Offset(s, ty(api.TyStruct, "S"), i); got != n {
			t.Errorf("field %d: %d, want %d", i, got, n)
		}
	}
}

// TestMany: of many structs, one in the other, an answer does not take long.
func TestMany(t *testing.T) {
	s := source(t, chain(2000, "int"))
	for range 20 {
		if n := kinds.Size(s, ty(api.TyStruct, "C0")); n != 1 || kinds.Drops(s, ty(api.TyStruct, "C0")) {
			t.Fatalf("%d words", n)
		}
	}
	if err, at := kinds.Check(s); err != api.OK || at != 0 {
		t.Error(err, at)
	}
	s = source(t, chain(2000, "C1999"))
	if n := kinds.Size(s, ty(api.TyStruct, "C0")); n != 0 {
		t.Errorf("%d words", n)
	}
	if err, at := kinds.Check(s); err != api.ErrInfinite || at != s.Structs[1999].At {
		t.Error(err, at)
	}
	s = source(t, chain(2000, "C0"))
	if err, at := kinds.Check(s); err != api.ErrInfinite || at != s.Structs[0].At {
		t.Error(err, at)
	}
}

// TestManyNames: types that hold any number of others, of which two have a name each: the first one counts, however many names are asked for.
func TestManyNames(t *testing.T) {
	var parts []string
	text, words := "", 0
	for n := range 40 {
		name := "A" + strconv.Itoa(n)
		text += "struct " + name + " {" + fields(n, "int") + "} struct " + name + " { a: box " + name + ", b: " + name + " } "
		parts = append(parts, "f"+strconv.Itoa(n)+": "+name)
		words += n
		all := " struct All {" + strings.Join(parts, ", ") + "}"
		sizes(t, text+all, map[string]int{"All": words, name: n})
		s := source(t, text+all)
		if got := kinds.Drops(s, ty(api.TyStruct, "All")); got {
			t.Errorf("of %d names: it drops", n)
		}
		if got := kinds.Offset(s, ty(api.TyStruct, "All"), n); got != words-n {
			t.Errorf("of %d names: the last field is %d words behind, want %d", n, got, words-n)
		}
		if got := kinds.Drops(source(t, text+"drop "+all[1:]), ty(api.TyStruct, "All")); !got {
			t.Errorf("of %d names: it does not drop", n)
		}
	}
}
