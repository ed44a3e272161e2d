package mir_test

import (
	"strconv"
	"strings"
	"testing"

	"cocoon/api"
)

// made are values of known, by their texts, and what they are of.
const made = `
0 0 0 #7 = int
0 0 0 #-9223372036854775808 = int
0 0 0 copy 0 = int
0 0 0 copy 21 = int
0 0 0 copy 1.1 = int
0 0 0 copy 7.-1.0.1 = int
0 0 0 copy 8 = &int
0 0 0 copy 8.-1 = int
0 0 0 copy 9.-1 = int
0 0 0 copy 10 = &S
0 0 0 copy 18 = &box S
0 0 0 move 1 = P
0 0 0 move 2 = D
0 0 0 move 4 = E
0 0 0 move 6 = box int
0 0 0 move 9 = &mut int
0 0 0 move 11 = &mut S
0 0 0 move 12 = co g
0 0 0 move 16 = None
1 0 0 #1 #2 = int
2 0 0 copy 0 #-2 = int
3 0 0 #1 copy 8.-1 = int
4 0 0 copy 1.0 copy 1.0 = int
5 0 0 copy 21 copy 14 = int
6 0 0 0 = &int
6 0 0 1 = &P
6 0 0 1.0 = &int
6 0 0 7 = &box S
6 0 0 7.-1.2 = &E
6 0 0 8.-1 = &int
6 0 0 10.-1.3.-1 = &S
6 0 0 9.-1 = &int
6 0 0 12 = &co g
6 0 0 21 = &int
7 0 0 0 = &mut int
7 0 0 3.3.-1 = &mut S
7 0 0 9.-1 = &mut int
7 0 0 11.-1.7 = &mut box E
7 0 0 19.-1.-1 = &mut S
7 0 0 21 = &mut int
8 0 0 #1 = box int
8 0 0 copy 21 = box int
8 0 0 move 1 = box P
8 0 0 move 4 = box E
8 0 0 move 7 = box box S
8 0 0 move 13 = box co h
9 0 0 6 = int
9 0 0 7 = S
9 0 0 15 = E
9 0 0 17 = D
10 0 0 #1 copy 0 = P
10 1 0 #1 = D
10 2 0 = None
10 3 0 move 1 move 2 move 4 move 7 move 12 #5 move 6 move 15 = S
11 0 0 = E
11 0 1 copy 21 = E
11 0 2 move 20 = E
11 0 3 move 15 = E
11 0 4 move 5 = E
11 1 0 = F
12 0 0 = co g
12 1 0 #1 move 6 move 4 = co h
`

// wrong are values of known, by their texts, and what is told of them: where they have two faults, the first one.
const wrong = `
10 4 0 = 71
10 -1 0 #1 = 71
11 2 0 = 71
11 -1 0 = 71
12 2 0 = 71
12 -9223372036854775808 0 = 71
10 9223372036854775807 5 = 71
11 2 9 #1 = 71
12 -1 2 = 71
11 2 0 copy 99 = 71
0 1 0 #1 = 80
0 -1 0 #1 = 80
1 1 0 #1 #2 = 80
6 1 0 0 = 80
7 1 0 0 = 80
8 2 0 #1 = 80
9 1 0 6 = 80
0 1 1 = 80
6 1 0 99 = 80
0 1 0 copy 99 = 80
11 0 5 = 83
11 0 -1 = 83
11 1 1 = 83
11 0 9223372036854775807 #1 = 83
11 0 5 copy 99 = 83
0 0 1 #1 = 80
5 0 -1 #1 #2 = 80
6 0 1 0 = 80
6 0 1 99 = 80
8 0 2 #1 = 80
9 0 1 6 = 80
10 0 1 #1 #2 = 80
10 3 1 = 80
12 0 1 = 80
13 0 0 = 80
14 0 0 = 80
15 0 0 #1 = 80
16 0 0 = 80
-1 0 0 = 80
13 1 1 #1 = 80
13 0 0 copy 99 = 80
6 0 0 22 = 84
6 0 0 -1 = 84
6 0 0 1.2 = 84
6 0 0 0.-1 = 84
7 0 0 22 = 84
6 0 0 8 = 73
6 0 0 9 = 73
6 0 0 18 = 73
7 0 0 8 = 73
7 0 0 11 = 73
7 0 0 8.-1 = 84
7 0 0 10.-1 = 84
7 0 0 10.-1.0.1 = 84
7 0 0 10.-1.3.-1 = 84
7 0 0 18.-1 = 84
7 0 0 18.-1.-1 = 84
9 0 0 22 = 84
9 0 0 -1 = 84
9 0 0 3.6 = 84
9 0 0 19.-1 = 84
9 0 0 3.5 = 84
9 0 0 3.9 = 84
9 0 0 0 = 80
9 0 0 8 = 80
9 0 0 11 = 80
9 0 0 4 = 80
6 0 0 #1 99 = 84
6 0 0 #1 8 = 73
6 0 0 #1 0 = 81
7 0 0 #1 0 = 81
7 0 0 #1 8.-1 = 84
9 0 0 #1 6 = 81
9 0 0 #1 0 = 80
9 0 0 #1 3.6 = 84
6 0 0 copy 99 0 = 81
0 0 0 = 81
0 0 0 #1 #2 = 81
0 0 0 copy 99 copy 99 = 81
1 0 0 = 81
1 0 0 #1 = 81
2 0 0 #1 #2 #3 = 81
3 0 0 copy 99 = 81
4 0 0 move 1 = 81
5 0 0 copy 0 = 81
8 0 0 = 81
8 0 0 #1 #2 = 81
10 0 0 = 81
10 0 0 #1 = 81
10 0 0 #1 #2 #3 = 81
10 0 0 copy 99 = 81
10 2 0 #1 = 81
10 2 0 copy 99 = 81
11 0 0 #1 = 81
11 0 1 = 81
11 0 1 #1 #2 = 81
11 0 0 copy 99 = 81
11 1 0 #1 = 81
12 0 0 #1 = 81
12 1 0 #1 = 81
12 1 0 #1 move 6 move 4 #1 = 81
0 0 0 copy 22 = 84
0 0 0 copy -1 = 84
0 0 0 copy 1.2 = 84
0 0 0 copy 0.-1 = 84
0 0 0 copy 1 = 84
0 0 0 copy 9 = 84
0 0 0 copy 12 = 84
0 0 0 move 0 = 84
0 0 0 move 8 = 84
0 0 0 move 21 = 84
0 0 0 move 22 = 84
0 0 0 copy 3.0 = 84
0 0 0 move 3.0 = 84
0 0 0 move 7.-1 = 84
0 0 0 move 11.-1 = 84
0 0 0 copy 7.-1 = 84
0 0 0 move 1.0 = 84
0 0 0 move 8.-1 = 84
1 0 0 move 1 #1 = 80
1 0 0 #1 move 1 = 80
1 0 0 copy 8 #1 = 80
5 0 0 #1 copy 8 = 80
5 0 0 move 6 move 6 = 80
4 0 0 copy 99 move 1 = 84
4 0 0 #1 copy 99 = 84
4 0 0 move 1 copy 99 = 80
8 0 0 copy 8 = 73
8 0 0 move 9 = 73
8 0 0 copy 18 = 73
8 0 0 move 19 = 73
8 0 0 copy 9 = 84
10 0 0 #1 move 1 = 80
10 0 0 move 1 #1 = 80
10 0 0 copy 99 move 1 = 84
10 0 0 move 1 copy 99 = 80
10 0 0 #1 copy 99 = 84
10 1 0 copy 8 = 80
10 3 0 move 1 move 2 move 4 move 7 move 13 #5 move 6 move 15 = 80
10 3 0 move 1 move 2 move 5 move 7 move 12 #5 move 6 move 15 = 80
10 3 0 move 1 move 2 move 4 move 7 move 12 #5 move 6 move 6 = 80
10 3 0 move 1 move 2 move 4 move 17 move 12 #5 copy 99 move 15 = 80
10 3 0 move 1 move 2 move 4 move 7 move 12 #5 copy 99 move 14 = 84
11 0 1 move 1 = 80
11 0 2 #1 = 80
11 0 2 move 2 = 80
11 0 3 move 4 = 80
11 0 3 move 6 = 80
11 0 4 move 4 = 80
11 0 4 copy 99 = 84
12 1 0 move 1 move 6 move 4 = 80
12 1 0 #1 move 15 move 4 = 80
12 1 0 #1 move 6 move 5 = 80
12 1 0 #1 copy 6 move 5 = 84
`

// parts are a line's, ahead of and behind its =.
func parts(t *testing.T, line string) (string, string) {
	t.Helper()
	text, of, ok := strings.Cut(line, " = ")
	if !ok {
		t.Fatalf("%q has no =", line)
	}
	return text, of
}

func TestValue(t *testing.T) {
	s, b := source(t, decls), body(t, "")
	for _, line := range lines(made) {
		text, of := parts(t, line)
		makes(t, s, b, text, typed(t, s, of), api.OK)
	}
	for _, line := range lines(wrong) {
		text, of := parts(t, line)
		n, err := strconv.Atoi(of)
		if err != nil {
			t.Fatal(err)
		}
		makes(t, s, b, text, api.Ty{}, api.Errno(n))
	}
}

// TestValueSpot: what is not made of a spot has none, ahead of what is wrong with its uses, and behind its kind.
func TestValueSpot(t *testing.T) {
	s, b := source(t, decls), body(t, "")
	for _, line := range lines(made) {
		text, _ := parts(t, line)
		v := value(t, text)
		if v.K == api.RvRef || v.K == api.RvMut || v.K == api.RvUnbox {
			continue
		}
		for _, x := range []api.Spot{{Local: 1}, {Local: -1}, {Path: []int{0}}, {Path: []int{-1}}, {Local: 6, Path: []int{-1}}} {
			v.S = x
			valueIs(t, s, b, v, api.Ty{}, api.ErrPlace)
			none := v
			none.Uses = append([]api.Use{{S: api.Spot{Local: 99}}}, v.Uses...)
			valueIs(t, s, b, none, api.Ty{}, api.ErrPlace)
			none.K, none.Which, none.Tag = api.RvWait, 0, 0
			valueIs(t, s, b, none, api.Ty{}, api.ErrType)
			none.Tag = 1
			valueIs(t, s, b, none, api.Ty{}, api.ErrType)
		}
	}
}

// TestUse: a use that is right, and what each other field of it makes wrong.
func TestUse(t *testing.T) {
	s, b := source(t, decls), body(t, "")
	of := func(u api.Use) api.Value { return api.Value{Uses: []api.Use{u}} }
	for _, u := range []api.Use{{Num: true}, {Num: true, N: 3}, {Num: true, N: -3, S: api.Spot{Path: []int{}}}} {
		valueIs(t, s, b, of(u), num(), api.OK)
	}
	for _, u := range []api.Use{
		{Num: true, Move: true},
		{Num: true, S: api.Spot{Local: 1}},
		{Num: true, S: api.Spot{Local: -1}},
		{Num: true, S: api.Spot{Path: []int{0}}},
		{Num: true, Move: true, S: api.Spot{Local: 1}},
		{N: 1},
		{N: -1, S: api.Spot{Local: 14}},
		{N: 1, Move: true, S: api.Spot{Local: 1}},
		{N: 1, S: api.Spot{Local: 1, Path: []int{0}}},
	} {
		valueIs(t, s, b, of(u), api.Ty{}, api.ErrPlace)
		v := api.Value{K: api.RvMake, Uses: []api.Use{u, {Move: true, S: api.Spot{Local: 6}}}}
		valueIs(t, s, b, v, api.Ty{}, api.ErrPlace)
	}
	// a unit, which no body has, is copied, too
	unit := api.Body{Locals: []api.Local{{}}}
	valueIs(t, s, unit, of(api.Use{}), api.Ty{}, api.OK)
	valueIs(t, s, unit, of(api.Use{Move: true}), api.Ty{}, api.ErrPlace)
	valueIs(t, s, unit, api.Value{K: api.RvAdd, Uses: []api.Use{{}, {}}}, api.Ty{}, api.ErrType)
}

// TestValueOdd: of sources that are not checked.
func TestValueOdd(t *testing.T) {
	s := source(t, "struct A { a: int } struct A { a: A } enum A { X } enum E { X, Y } enum E { Z } co g() {} co g(x: A) {} struct B { a: int, b: E }")
	b := api.Body{Locals: []api.Local{{Ty: ty(api.TyStruct, "A")}, {Ty: ty(api.TyEnum, "E")}, {Ty: ty(api.TyBox, "")}, {Ty: ty(api.TyBox, "", num(), num())}}}
	makes(t, s, b, "10 0 0 #1", ty(api.TyStruct, "A"), api.OK)
	makes(t, s, b, "10 1 0 move 0", ty(api.TyStruct, "A"), api.OK) // its place is told, not its name
	makes(t, s, b, "10 1 0 #1", api.Ty{}, api.ErrType)
	makes(t, s, b, "11 0 0", ty(api.TyEnum, "A"), api.OK)
	makes(t, s, b, "11 2 0", ty(api.TyEnum, "E"), api.OK)
	makes(t, s, b, "11 2 1", api.Ty{}, api.ErrVariant)
	makes(t, s, b, "12 1 0 move 0", ty(api.TyCo, "g"), api.OK)
	makes(t, s, b, "12 0 0 move 0", api.Ty{}, api.ErrCount)
	makes(t, s, b, "9 0 0 2", api.Ty{}, api.ErrType)
	makes(t, s, b, "9 0 0 3", api.Ty{}, api.ErrType)
	makes(t, api.Source{}, b, "10 0 0", api.Ty{}, api.ErrUnknown)
	makes(t, api.Source{}, b, "11 0 0", api.Ty{}, api.ErrUnknown)
	makes(t, api.Source{}, b, "12 0 0", api.Ty{}, api.ErrUnknown)
	makes(t, api.Source{}, api.Body{}, "0 0 0 #1", num(), api.OK)
	makes(t, api.Source{}, api.Body{}, "0 0 0 copy 0", api.Ty{}, api.ErrPlace)
	// what does not resolve is no type of a use; but its own error comes first, and those of the uses ahead
	s.Structs[2].Fields[0].Ty = ty(api.TyStruct, "Nowhere")
	makes(t, s, b, "10 2 0 #1 move 1", api.Ty{}, api.ErrType)
	makes(t, s, b, "10 2 0 copy 1 move 1", api.Ty{}, api.ErrPlace)
	makes(t, s, b, "10 2 0 #1 copy 1", api.Ty{}, api.ErrType)
	makes(t, s, b, "10 2 0 #1", api.Ty{}, api.ErrCount)
	s.Enums[1].Variants[0].Ty = ty(api.TyBox, "")
	makes(t, s, b, "11 1 0 move 2", api.Ty{}, api.ErrType)
	makes(t, s, b, "11 1 0", api.Ty{}, api.ErrCount)
}
