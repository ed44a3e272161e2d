package mir_test

import (
	"testing"

	"cocoon/api"
	"cocoon/mir"
)

// reached are spots of known, and what stands there: behind & what is reached through a shared reference.
const reached = `
0 int
1 P
1.0 int
1.1 int
2 D
2.0 int
3 S
3.0 P
3.0.1 int
3.1 D
3.1.0 int
3.2 E
3.3 box S
3.3.-1 S
3.3.-1.3.-1.0.0 int
3.4 co g
3.5 int
3.6 box int
3.6.-1 int
3.7 box E
3.7.-1 E
4 E
5 F
6 box int
6.-1 int
7 box S
7.-1 S
7.-1.2 E
7.-1.6.-1 int
8 &int
8.-1 int &
9 &mut int
9.-1 int
10 &S
10.-1 S &
10.-1.0 P &
10.-1.0.0 int &
10.-1.3 box S &
10.-1.3.-1 S &
10.-1.3.-1.7.-1 E &
11 &mut S
11.-1 S
11.-1.3.-1.6.-1 int
12 co g
13 co h
15 box E
15.-1 E
16 None
17.-1.0 int
18 &box S
18.-1 box S &
18.-1.-1 S &
18.-1.-1.5 int &
19 &mut box S
19.-1 box S
19.-1.-1.3.-1 S
20.1 int
21 int
`

// nowhere are spots that can't be: with no such local; no such field; a step of another type.
const nowhere = `
22
-1
-2
23.0
9223372036854775807
-9223372036854775808
1.2
1.-2
1.9223372036854775807
1.-9223372036854775808
2.1
3.8
16.0
1.-1
3.-1
3.0.2
3.0.-1
3.0.0.0
3.0.0.-1
0.0
0.-1
21.0
21.-1
4.0
4.1
4.-1
3.2.0
3.7.-1.0
5.0
6.0
6.1
6.-2
6.-1.0
6.-1.-1
7.0
7.-1.-1
7.-1.8
8.0
8.-1.-1
9.0
9.-2
10.0
10.-1.-1
10.-1.8
12.0
12.-1
13.0
18.0
18.-1.0
18.-1.-1.-1
3.3.5
3.3.-1.9
`

func TestType(t *testing.T) {
	s, b := source(t, decls), body(t, "")
	for _, line := range lines(reached) {
		var shared bool
		if line[len(line)-1] == '&' {
			line, shared = line[:len(line)-2], true
		}
		for i := range line {
			if line[i] == ' ' {
				typeIs(t, s, b, spot(t, line[:i]), typed(t, s, line[i+1:]), shared, api.OK)
				break
			}
		}
	}
	for _, line := range lines(nowhere) {
		typeIs(t, s, b, spot(t, line), api.Ty{}, false, api.ErrPlace)
	}
	typeIs(t, s, api.Body{}, api.Spot{}, api.Ty{}, false, api.ErrPlace)
	typeIs(t, api.Source{}, b, api.Spot{Local: 3}, typed(t, s, "S"), false, api.OK)
	typeIs(t, api.Source{}, b, api.Spot{Local: 3, Path: []int{0}}, api.Ty{}, false, api.ErrPlace)
}

// TestTypeOdd: of types that are not right the local's is told as it stands; no step leads into one.
func TestTypeOdd(t *testing.T) {
	s := source(t, decls)
	ref := ty(api.TyRef, "", num())
	for _, u := range []api.Ty{
		{}, ty(-1, ""), ty(8, "P", num()), ty(api.TyUnit, "P", num()),
		ty(api.TyBox, ""), ty(api.TyRef, ""), ty(api.TyMut, ""),
		ty(api.TyBox, "", num(), num()), ty(api.TyRef, "", ref, ref), ty(api.TyMut, "", num(), ref),
		ty(api.TyStruct, "E"), ty(api.TyStruct, "Nowhere"), ty(api.TyStruct, ""), ty(api.TyStruct, "g"), ty(api.TyStruct, "E", num()),
		ty(api.TyEnum, "P"), ty(api.TyEnum, "P", num()), ty(api.TyEnum, "Nowhere"), ty(api.TyEnum, "E", num()),
		ty(api.TyInt, "P"), ty(api.TyInt, "P", num()), ty(api.TyCo, "P", num()), ty(api.TyCo, "nowhere"),
	} {
		b := api.Body{Locals: []api.Local{{Ty: u}}}
		typeIs(t, s, b, api.Spot{}, u, false, api.OK)
		for step := -2; step < 3; step++ {
			typeIs(t, s, b, api.Spot{Path: []int{step}}, api.Ty{}, false, api.ErrPlace)
		}
	}
	b := api.Body{Locals: []api.Local{{Ty: ty(api.TyBox, "", ty(api.TyRef, "", ty(api.TyMut, "", ty(api.TyStruct, "E"))))}}}
	typeIs(t, s, b, api.Spot{Path: []int{-1}}, b.Locals[0].Ty.L[0], false, api.OK)
	typeIs(t, s, b, api.Spot{Path: []int{-1, -1}}, b.Locals[0].Ty.L[0].L[0], true, api.OK)
	typeIs(t, s, b, api.Spot{Path: []int{-1, -1, -1}}, ty(api.TyStruct, "E"), true, api.OK)
	typeIs(t, s, b, api.Spot{Path: []int{-1, -1, -1, 0}}, api.Ty{}, false, api.ErrPlace)
}

// TestTypeFields: a field's type is resolved; one that does not resolve can't be.
func TestTypeFields(t *testing.T) {
	s := source(t, "struct A { a: int, b: box box E, c: int, d: int, e: int, f: int, g: E } enum E { X } struct A { a: E } co g() {}")
	odd := [...]api.Ty{ty(api.TyStruct, "Nowhere"), ty(api.TyBox, ""), {}, ty(api.TyCo, "nowhere")}
	for i, u := range odd {
		s.Structs[0].Fields[i+2].Ty = u
	}
	b := api.Body{Locals: []api.Local{{Ty: ty(api.TyStruct, "A")}}}
	typeIs(t, s, b, api.Spot{Path: []int{0}}, num(), false, api.OK) // the first one of that name
	typeIs(t, s, b, api.Spot{Path: []int{1}}, ty(api.TyBox, "", ty(api.TyBox, "", ty(api.TyEnum, "E"))), false, api.OK)
	typeIs(t, s, b, api.Spot{Path: []int{1, -1, -1}}, ty(api.TyEnum, "E"), false, api.OK)
	for i := range odd {
		typeIs(t, s, b, api.Spot{Path: []int{i + 2}}, api.Ty{}, false, api.ErrPlace)
	}
	typeIs(t, s, b, api.Spot{Path: []int{6}}, ty(api.TyEnum, "E"), false, api.OK)
	typeIs(t, s, b, api.Spot{Path: []int{7}}, api.Ty{}, false, api.ErrPlace)
}

// TestSucc: an end goes to what it has in To, whatever it is.
func TestSucc(t *testing.T) {
	for k := api.TmKind(-1); k < 10; k++ {
		for _, to := range [][]int{nil, {}, {3}, {2, 1}, {-1, 5, 5, 0}} {
			x := api.Tm{K: k, S: api.Spot{Local: 7}, To: to}
			got := mir.Succ(x)
			if len(got) != len(to) {
				t.Errorf("%+v goes to %v", x, got)
				continue
			}
			for i := range to {
				if got[i] != to[i] {
					t.Errorf("%+v goes to %v", x, got)
				}
				got[i] = 99
			}
			for _, n := range to {
				if n == 99 {
					t.Errorf("%+v shares where it goes", x)
				}
			}
		}
	}
}
