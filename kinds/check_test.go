package kinds_test

import (
	"strings"
	"testing"

	"cocoon/api"
	"cocoon/kinds"
)

// checked fails, if the check of a text does not tell this error at its mark ^; or OK, if it has no mark.
func checked(t *testing.T, text string, wanted api.Errno) {
	t.Helper()
	where := max(strings.Index(text, "^"), 0)
	told(t, text, source(t, strings.Replace(text, "^", "", 1)), wanted, where)
}

func told(t *testing.T, about string, s api.Source, wanted api.Errno, where int) {
	t.Helper()
	if err, at := kinds.Check(s); err != wanted || at != where {
		t.Errorf("%.300q: %v at %d, want %v at %d", about, err, at, wanted, where)
	}
}

// variants are so many of a type, or without one, as a text, each with a name of its own.
func variants(n int, ty string) string {
	if ty != "" {
		ty = "(" + ty + ")"
	}
	l := strings.Split(strings.ToUpper(fields(n, "")), ", ")
	for i := range l {
		l[i] = strings.TrimSuffix(l[i], ": ") + ty
	}
	return strings.Join(l, ", ")
}

func TestCheckRight(t *testing.T) {
	for _, text := range []string{
		"",
		"struct S {}",
		"struct S { a: int, b: box S, c: co s } enum E { A, B(E2), C(box E) } enum E2 { A } co s(a: S, b: E, c: co s) {}",
		"co f(a: A) {} enum A { B(B) } struct B { c: C } drop struct C { d: box box A }",
		"struct A { a: box B } struct B { a: A, b: box B, c: co f } co f(a: A, b: B, c: co f) {}",
		"struct A { a: B, b: B, c: C } struct B { c: C, d: C } struct C {}",
		"enum A { X(B), Y(B), Z(C) } enum B { X(C), Y(box A) } enum C { X, Y, Z }",
		"enum Same { Same(Other), Other } struct Other { same: int, other: co same } co same(same: int, other: Same) {}",
		"struct S { " + fields(200, "int") + " }",
		"enum E { " + variants(200, "") + " }",
		"enum E { " + variants(200, "box E") + " }",
		"co f(" + fields(200, "int") + ") {}",
		wide("A", 1024) + "struct B { a: A } co f(a: A) {}",
		wide("A", 1023) + "enum E { X(A), Y } co f(a: E) {} co g(a: A, b: int) {} co h(" + fields(200, "box A") + ") {}",
		wide("A", 512) + "co f(a: A, b: A) {} struct S { a: A, b: A } enum E { X(A), Y(A), Z(A) }",
		"struct None {} struct S { " + fields(200, "None") + " } co f(" + fields(200, "S") + ") {}",
	} {
		checked(t, text, api.OK)
	}
}

func TestCheckTwice(t *testing.T) {
	for _, text := range []string{
		"struct A {} ^struct A {}",
		"struct A {} struct B {} ^struct A {} struct B {}",
		"struct A {} ^drop struct A {} struct A {}",
		"enum A { X } ^enum A { X }",
		"enum A { X } enum B { X } enum C { X } ^enum B { X } enum A { X }",
		"struct A {} ^enum A { X }",
		"^enum A { X } struct A {}", // all structs stand ahead of all enums
		"enum B { X } ^enum A { X } struct A {} enum B { X }",
		"enum A { X } enum A { X } struct B {} ^struct B {}",
		"co a() {} ^co a() {}",
		"co a() {} co b() {} co c() {} ^co c() {} co a() {}",
		"co a() {} co a() {} enum A { X } ^enum A { X }",
		"struct A { a: int } ^struct A { a: Nowhere, a: A }",
		"struct C { a: Nowhere } struct A {} ^struct A {}",
		"struct C { a: C } struct A {} ^enum A {}",
		// names of parts
		"^struct A { a: int, a: int }",
		"^struct A { a: int, b: int, c: int, b: A, a: int }",
		"^struct A { a: &Nowhere, a: Nowhere }",
		"^enum A { X, X }",
		"^enum A { X(int), Y(Nowhere), X }",
		"^co f(a: int, a: int) {}",
		"^co f(a: Nowhere, b: Nowhere, a: int) {}",
		"struct A { a: int } struct B { a: int, b: int } ^struct C { a: int, b: int, c: A, c: B }",
		"^struct A { " + fields(200, "int") + ", f0: int }",
		"^struct A { " + fields(250, "int") + ", f249: int }",
		"^enum A { " + variants(250, "") + ", F0 }",
		"^co f(" + fields(200, "int") + ", f199: int) {}",
	} {
		checked(t, text, api.ErrTwice)
	}
	for _, text := range []string{
		"struct A { f: int } co f(a: int) {} co a(f: int) {} enum B { A, B }",
		"enum A { X } enum B { X }",
	} {
		checked(t, text, api.OK)
	}
	// a coroutine may be called as a struct is, where it was not read
	s := source(t, "struct A {} enum B { X } co f() {} co g() {}")
	s.Fns[0].Name, s.Fns[1].Name = "A", "B"
	told(t, "coroutines of other items' names", s, api.OK, 0)
	s.Fns[1].Name = "A"
	told(t, "coroutines of one such name", s, api.ErrTwice, s.Fns[1].At)
	s = source(t, "struct A {} struct B {} enum C { X }")
	s.Structs[1].Name, s.Enums[0].Name = "", ""
	told(t, "items without a name", s, api.ErrTwice, s.Enums[0].At)
	s = source(t, "struct A { a: int, b: int }")
	s.Structs[0].Fields[0].Name, s.Structs[0].Fields[1].Name, s.Structs[0].At = "", "", -5
	told(t, "fields without a name", s, api.ErrTwice, -5)
}

func TestCheckVariant(t *testing.T) {
	for _, text := range []string{
		"^enum A {}",
		"struct A {} enum B { X } ^enum C {} enum D {}",
		"struct A { a: B } ^enum B {}",
		"^enum A {} co f(a: Nowhere) {}",
		wide("A", 2000) + "^enum B {}",
	} {
		checked(t, text, api.ErrVariant)
	}
}

func TestCheckCount(t *testing.T) {
	for _, text := range []string{
		"^struct A { " + fields(201, "int") + " }",
		"^struct A { " + fields(201, "Nowhere") + " }",
		"^struct A { " + fields(201, "&int") + " }",
		"struct A { " + fields(200, "int") + " } ^enum B { " + variants(201, "") + " }",
		"^enum B { " + variants(201, "box Nowhere") + " }",
		"^enum B { " + variants(300, "B") + " }",
		"enum B { " + variants(200, "int") + " } ^co f(" + fields(201, "int") + ") {}",
		"^co f(" + fields(1000, "co f") + ") {}",
	} {
		checked(t, text, api.ErrCount)
	}
}

func TestCheckParts(t *testing.T) {
	for _, text := range []string{
		"^struct A { a: Nowhere }",
		"^struct A { a: int, b: box Nowhere, c: &int }",
		"^struct A { a: &Nowhere }",
		"^struct A { a: co f }",
		"^struct A { a: box co f } struct B { a: &int } co g() {}",
		"^enum A { X, Y(B) }",
		"^enum A { X, Y(co a) }",
		"struct A {} ^co f(a: A, b: &mut co g) {}",
		"co f(a: co f) {} ^co g(a: co h, b: &int) {}",
		"struct S { a: S } ^enum A { X(Nowhere) }",
		"struct A {} ^struct B { b: Nowhere } struct C { c: int, c: int }",
		"struct A {} ^struct B { b: Nowhere } enum C {}",
		wide("A", 1025) + "^co f(a: Nowhere) {}",
	} {
		checked(t, text, api.ErrUnknown)
	}
	for _, text := range []string{
		"^struct A { a: &int }",
		"^struct A { a: &mut int }",
		"^struct A { a: box &A, b: Nowhere }",
		"^struct A { a: int, b: box box &mut box int, c: co f }",
		"^enum A { X, Y(&A), Z(B) }",
		"^co f(a: &int) {}",
		"co f(a: int) {} ^co g(a: int, b: box &mut co f, c: co h) {}",
		"struct S { a: S } ^struct A { a: &int } struct B { a: Nowhere }",
		wide("A", 1025) + "^enum B { X(A), Y(&A) }",
	} {
		checked(t, text, api.ErrHold)
	}
}

// TestCheckKinds: types that no text has.
func TestCheckKinds(t *testing.T) {
	text := "struct S { a: int } enum E { A, B(int) } co f(a: int) {}"
	for _, x := range []struct {
		t   api.Ty
		err api.Errno
	}{
		{num(), api.OK},
		{ty(api.TyInt, "N", num()), api.OK},
		{ty(api.TyCo, "f", ty(api.TyUnit, "")), api.OK},
		{ty(api.TyBox, "", ty(api.TyEnum, "E")), api.OK},
		{ty(api.TyBox, ""), api.ErrType},
		{ty(api.TyRef, ""), api.ErrType},
		{ty(api.TyMut, "", num(), num()), api.ErrType},
		{ty(api.TyBox, "", ty(api.TyUnit, "")), api.ErrType},
		{ty(api.TyRef, "", ty(8, "")), api.ErrType},
		{ty(-1, ""), api.ErrType},
		{ty(8, "", ty(api.TyRef, "", num())), api.ErrType},
		{ty(api.TyEnum, "S"), api.ErrUnknown},
		{ty(api.TyBox, "", ty(api.TyEnum, "S")), api.ErrUnknown},
		{ty(api.TyStruct, "f"), api.ErrUnknown},
		{ty(api.TyCo, "S"), api.ErrUnknown},
		{ty(api.TyInt, "", ty(api.TyMut, "")), api.ErrHold},
		{ty(api.TyCo, "f", num(), ty(api.TyBox, "", ty(api.TyRef, ""))), api.ErrHold},
	} {
		s := source(t, text)
		s.Structs[0].Fields[0].Ty = x.t
		told(t, "a field "+text, s, x.err, 0)
		s = source(t, text)
		s.Fns[0].Params[0].Ty = x.t
		told(t, "a parameter "+text, s, x.err, place(x.err, s.Fns[0].At))
		s = source(t, text)
		s.Enums[0].Variants[1].Ty = x.t
		told(t, "a variant "+text, s, x.err, place(x.err, s.Enums[0].At))
	}
	for _, unit := range []api.Ty{{}, ty(api.TyUnit, "N"), ty(api.TyUnit, "", ty(api.TyRef, "", ty(9, "")))} {
		s := source(t, text)
		s.Structs[0].Fields[0].Ty = unit
		told(t, "a field of nothing", s, api.ErrType, 0)
		s = source(t, text)
		s.Fns[0].Params[0].Ty = unit
		told(t, "a parameter of nothing", s, api.ErrType, s.Fns[0].At)
		s = source(t, text)
		s.Enums[0].Variants[1].Ty = unit
		told(t, "a variant of nothing", s, api.OK, 0)
	}
}

// place is where an error is told; none is told at 0.
func place(err api.Errno, at int) int {
	if err == api.OK {
		return 0
	}
	return at
}

func TestCheckInfinite(t *testing.T) {
	for _, text := range []string{
		"^struct A { a: A }",
		"^struct A { a: int, b: A }",
		"^enum A { X, Y(int), Z(A) }",
		"struct Z {} ^struct A { a: B } struct B { a: A }",
		"^struct A { a: B } struct B { a: E } enum E { X, Y(A) }",
		"enum E { X(A) } ^struct A { a: B } struct B { a: E }",
		"struct Out { a: A } ^struct A { a: B } struct B { a: B2 } struct B2 { a: A }",
		"struct Out { a: Out2 } enum Out2 { X(A) } ^enum A { X, Y(A) }",
		"struct Out { a: Out2 } struct Out2 { a: int, b: A } ^struct A { a: A } struct B { a: B }",
		"enum E { X(E) } ^struct A { a: A }",
		"co f(a: E) {} struct A { a: E } ^enum E { X(F) } enum F { X(E) }",
		// a part of two rings, and what stands between them
		"struct Out { a: Mid, b: In } ^struct Mid { a: In, b: Mid } struct In { a: In }",
		"^struct A { a: B } struct B { a: C, b: A } struct C { a: B }",
		"struct Out { a: Mid, b: In } struct Mid { a: In } ^struct In { a: In2 } struct In2 { a: In3, b: In } struct In3 { a: In2 }",
		wide("A", 2000) + "^struct B { a: A, b: B }",
		"co f(" + fields(200, "A") + ") {} ^struct A { a: A }",
		strings.Replace(chain(300, "C150"), "struct C150 ", "^struct C150 ", 1),
		strings.Replace(chain(300, "C299"), "struct C299 ", "^struct C299 ", 1),
		"^" + chain(300, "C0"),
	} {
		checked(t, text, api.ErrInfinite)
	}
}

func TestCheckLong(t *testing.T) {
	mark := func(text, item string) string { return strings.Replace(text, item, "^"+item, 1) }
	for _, text := range []string{
		mark(wide("A", 1025), "struct A "),
		mark(wide("A", 1100)+"struct B { a: A } co f(b: B) {} enum E { X(A) }", "struct A "),
		"^struct B { a: A, b: A } " + wide("A", 513),
		"^struct B { a: E } enum E { X(A) } " + wide("A", 1024),
		wide("A", 1024) + "^enum E { X, Y(A) } co f(a: A, b: int) {}",
		wide("A", 1023) + "enum E { X(A) } ^struct B { a: E, b: int } enum F { X(E) }",
		wide("A", 1023) + "enum E { X(A) } ^enum F { X(E) } co f(a: A, b: A) {}",
		"^struct A { " + fields(200, "B") + " } struct B { " + fields(6, "int") + " }",
		// parameters
		wide("A", 1024) + "co f(a: A) {} ^co g(a: A, b: int) {}",
		wide("A", 1024) + "^co f(a: box A, b: A) {} co g(a: A, b: int) {}",
		wide("A", 512) + "co f(a: A, b: A) {} co g() {} ^co h(a: A, b: A, c: co f) {}",
		wide("A", 1023) + "enum E { X(A), Y } ^co f(a: int, b: E) {}",
		"^co f(" + fields(200, "A") + ") {} struct A { " + fields(6, "int") + " }",
	} {
		checked(t, text, api.ErrLong)
	}
}

// TestCheckOrder: an error of each look is told ahead of all those of later ones, wherever they stand.
func TestCheckOrder(t *testing.T) {
	long := wide("Long", 1025)
	for _, x := range []struct {
		err        api.Errno
		text, item string
	}{
		{api.ErrTwice, long + "struct S { a: S } co h(a: Nowhere) {} struct P { p: int, p: int } enum V {} co f() {} co f() {}", "co f() {} co f"},
		{api.ErrUnknown, long + "struct S { a: S } enum V { A } co f() {} co h(a: Nowhere) {}", "co h"},
		{api.ErrHold, long + "struct S { a: S } enum V { A } co f() {} co h(a: &int) {}", "co h"},
		{api.ErrVariant, long + "struct S { a: S } co f(a: int, a: Nowhere) {} enum V {}", "enum V"},
		{api.ErrUnknown, long + "co f(a: int, a: int) {} enum V {} struct T { a: Nowhere } struct S { a: S }", "struct T"},
		{api.ErrInfinite, long + "co f(a: Long) {} struct S { a: S }", "struct S"},
		{api.ErrInfinite, long + "co f(a: Long) {} enum S { A(S) }", "enum S"},
		{api.ErrLong, "co f(a: Long, b: Long) {} enum E { X(Long) } " + long, "struct Long "},
		{api.ErrLong, "co f(a: Half, b: Half, c: int) {} enum E { X(Two) } struct Two { a: Half, b: Half } " + wide("Half", 512), "enum E"},
	} {
		s := source(t, x.text)
		where := strings.Index(x.text, x.item)
		if x.err == api.ErrTwice { // the second one of both
			where += len("co f() {} ")
		}
		told(t, x.text, s, x.err, where)
	}
	// within one item
	for _, x := range []struct {
		err  api.Errno
		text string
	}{
		{api.ErrTwice, "struct A { a: Nowhere, b: &int, " + fields(200, "A") + ", a: int }"},
		{api.ErrTwice, "enum A { X(Nowhere), X(&int) }"},
		{api.ErrCount, "struct A { a: Nowhere, b: &int, " + fields(200, "A") + " }"},
		{api.ErrUnknown, "struct A { a: Nowhere, b: &int }"},
		{api.ErrHold, "struct A { b: &int, a: Nowhere }"},
		{api.ErrUnknown, "struct A { b: &Nowhere, a: &int }"},
		{api.ErrHold, "co f(b: &int, a: Nowhere) {}"},
		{api.ErrHold, "enum A { X, Y(&int), Z(Nowhere) }"},
		{api.ErrUnknown, "enum A { X, Y(A), Z(Nowhere), W(&int) }"},
	} {
		checked(t, "^"+x.text, x.err)
	}
}
