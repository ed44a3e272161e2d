package mir_test

import (
	"slices"
	"strconv"
	"testing"

	"cocoon/api"
	"cocoon/mir"
)

// rightSteps are such as may be in known, ahead of an end that returns.
const rightSteps = `
live 0
live 20
live 8
dead 0
dead 20
end 0
end 2
end 20
drop 0
drop 2
drop 8
drop 20
set 0 = 0 0 0 #3
set 0 = 1 0 0 copy 14 #1
set 21 = 0 0 0 copy 0
set 1 = 0 0 0 move 1
set 1 = 0 0 0 move 20
set 1 = 10 0 0 #1 copy 1.0
set 2 = 9 0 0 17
set 3 = 9 0 0 7
set 3 = 10 3 0 move 1 move 2 move 4 move 7 move 12 #5 move 6 move 15
set 4 = 11 0 3 move 15
set 4 = 11 0 0
set 5 = 11 1 0
set 6 = 8 0 0 copy 1.1
set 7 = 8 0 0 move 3
set 8 = 6 0 0 1.0
set 8 = 0 0 0 copy 8
set 9 = 7 0 0 11.-1.0.1
set 9 = 0 0 0 move 9
set 10 = 6 0 0 10.-1.3.-1
set 11 = 7 0 0 7.-1
set 12 = 12 0 0
set 13 = 12 1 0 #1 move 6 move 4
set 16 = 10 2 0
set 18 = 6 0 0 7
set 19 = 7 0 0 3.3
set 1.0 = 0 0 0 #1
set 3.0.1 = 3 0 0 copy 1.0 #2
set 3.3.-1.5 = 5 0 0 #1 #2
set 3.6.-1 = 0 0 0 #1
set 6.-1 = 0 0 0 #1
set 9.-1 = 0 0 0 copy 8.-1
set 11.-1.0.0 = 0 0 0 #1
set 19.-1.-1.3.-1.5 = 9 0 0 6
print #1
print copy 0
print copy 21
print copy 1.0
print copy 10.-1.0.0
print copy 19.-1.-1.5
open 4 0 -1
open 4 1 0
open 4 1 21
open 4 2 20
open 4 3 15
open 4 4 5
open 5 0 -1
`

// wrongSteps are such as may not.
const wrongSteps = `
live 21
live 22
live -1
live 1.0
live 6.-1
dead 21
dead 22
dead -1
dead 1.0
end 21
end 22
end -1
end 1.0
drop 21
drop 22
drop -1
drop 1.0
set 22 = 0 0 0 #1
set -1 = 0 0 0 #1
set 1.2 = 0 0 0 #1
set 0.-1 = 0 0 0 #1
set 0 = 0 0 0 move 1
set 0 = 0 0 0 copy 8
set 21 = 0 0 0 copy 8
set 1 = 0 0 0 #1
set 1 = 0 0 0 move 2
set 1 = 10 1 0 #1
set 3 = 10 0 0 #1 #2
set 4 = 11 1 0
set 5 = 11 0 0
set 6 = 8 0 0 move 1
set 6 = 0 0 0 move 7
set 7 = 8 0 0 #1
set 8 = 7 0 0 0
set 8 = 6 0 0 1
set 9 = 6 0 0 0
set 9 = 0 0 0 copy 8
set 10 = 0 0 0 move 11
set 11 = 7 0 0 10.-1
set 12 = 12 1 0 #1 move 6 move 4
set 13 = 12 0 0
set 12 = 0 0 0 move 13
set 15 = 0 0 0 move 6
set 18 = 6 0 0 3
set 0 = 0 0 0 copy 99
set 0 = 0 0 0
set 0 = 0 1 0 #1
set 0 = 13 0 0
set 0 = 14 0 0
set 0 = 15 0 0 #1
set 0 = 16 0 0
set 1.0 = 0 0 0 move 1
set 3.0 = 0 0 0 move 1
set 3.1 = 9 0 0 17
set 3.2 = 11 0 0
set 3.6 = 8 0 0 #1
set 3.4 = 12 0 0
set 7.-1 = 9 0 0 7
set 11.-1 = 0 0 0 move 3
set 16.0 = 0 0 0 #1
set 8.-1 = 0 0 0 #1
set 10.-1.5 = 0 0 0 #1
set 10.-1.3.-1.0.0 = 0 0 0 #1
set 18.-1.-1.5 = 0 0 0 #1
set 10.-1.6.-1 = 0 0 0 #1
print copy 1
print move 1
print copy 8
print move 6
print copy 99
print copy 1.2
print move 0
print copy 4
open 4 5 -1
open 4 -1 -1
open 5 1 -1
open 4 0 0
open 4 0 -2
open 4 0 21
open 4 0 22
open 4 1 -1
open 4 1 1
open 4 1 8
open 4 1 22
open 4 2 2
open 4 3 6
open 4 4 4
open 4 2 1.0
open 4 1 1.0
open 4 1 6.-1
open 4 0 -1.0
open 5 0 -1.-1
open 0 0 -1
open 1 0 -1
open 3 0 -1
open 15 0 -1
open 21 0 -1
open 22 0 -1
open -1 0 -1
open 3.2 0 -1
open 15.-1 0 -1
open 10.-1.2 1 0
`

// rightEnds are such as may be in known, where there are six blocks.
const rightEnds = `
goto 0
goto 5
if #1 1 2
if copy 0 5 0
if copy 10.-1.5 3 3
if copy 21 1 1
match 4 1 2 3 4 5
match 4 0 0 0 0 0
match 5 3
return #1
return copy 21
return copy 7.-1.1.0
return copy 1.0
yield #1 1
yield copy 21 5
yield copy 9.-1 0
await 0 12 1
await 21 13 5
await 1.0 12 1
await 3.3.-1.5 13 0
await 9.-1 12 1
poll 0 12 1
poll 21 13 5
poll 11.-1.0.0 12 0
wait 0 #1 1
wait 21 copy 21 5
wait 7.-1.6.-1 copy 10.-1.5 0
`

// wrongEnds are such as may not.
const wrongEnds = `
goto
goto 6
goto -1
goto 0 0
goto 0 6
if #1
if #1 0
if #1 0 6
if #1 -1 0
if #1 0 0 0
if copy 1 0 0
if copy 8 0 0
if move 6 0 0
if copy 99 0 0
if move 0 0 0
match 4
match 4 1 2 3 4
match 4 1 2 3 4 5 0
match 4 1 2 3 4 6
match 4 -1 2 3 4 5
match 5
match 5 0 0
match 0
match 1
match 3 0
match 3.2 1 2 3 4 5
match 15.-1 1 2 3 4 5
match 15 1 2 3 4 5
match 22 0
match -1 0
return #1 0
return copy 0 1 2
return move 1
return copy 8
return copy 22
return copy 7.-1.2
yield #1
yield #1 6
yield #1 0 0
yield #1 -1
yield move 1 0
yield copy 8 0
yield copy 22 0
await 0 12
await 0 12 6
await 0 12 0 0
await 0 0 0
await 0 1 0
await 0 22 0
await 0 -1 0
await 0 3.4 0
await 0 12.0 0
await 1 12 0
await 8 12 0
await 22 12 0
await -1 12 0
await 1.2 12 0
await 8.-1 12 0
await 10.-1.5 12 0
await 3.0 12 0
poll 0 12
poll 0 12 6
poll 0 12 -1
poll 0 12 0 0
poll 0 0 0
poll 0 4 0
poll 0 22 0
poll 0 3.4 0
poll 2 12 0
poll 10.-1.0.0 12 0
poll 18.-1.-1.5 12 0
wait 0 #1
wait 0 #1 6
wait 0 #1 0 0
wait 1 #1 0
wait 22 #1 0
wait 8.-1 #1 0
wait 10.-1.3.-1.5 #1 0
wait 0 copy 1 0
wait 0 move 1 0
wait 0 copy 8 0
wait 0 copy 99 0
`

func TestValidSteps(t *testing.T) {
	s := source(t, decls)
	for _, line := range lines(rightSteps) {
		judged(t, line, s, oneStep(t, line), true)
	}
	for _, line := range lines(wrongSteps) {
		judged(t, line, s, oneStep(t, line), false)
		// nor in any other place, reached or not
		b := body(t, "block 0\n\treturn #0\nblock 1\n\tlive 0\n\t"+line+"\n\tlive 1\n\treturn #0\nblock 2\n\treturn #0\n")
		judged(t, "behind others: "+line, s, b, false)
		b.Blocks[1].Ins = slices.Delete(b.Blocks[1].Ins, 1, 2)
		judged(t, "without it", s, b, true)
	}
}

func TestValidEnds(t *testing.T) {
	s := source(t, decls)
	for _, line := range lines(rightEnds) {
		judged(t, line, s, oneEnd(t, line), true)
	}
	for _, line := range lines(wrongEnds) {
		b := oneEnd(t, line)
		judged(t, line, s, b, false)
		b.Blocks[0], b.Blocks[5] = b.Blocks[5], b.Blocks[0]
		judged(t, "behind others: "+line, s, b, false)
	}
}

func TestValidKinds(t *testing.T) {
	s := source(t, decls)
	b := body(t, "block 0\n\tlive 0\n\treturn #0\n")
	for _, k := range []api.InKind{-1, 6, 7, 100} {
		c := cloned(b)
		c.Blocks[0].Ins[0] = api.In{K: k}
		judged(t, "a step of no kind", s, c, false)
	}
	for _, k := range []api.TmKind{-1, 8, 9, 100} {
		for _, to := range [][]int{nil, {0}, {0, 0}} {
			c := cloned(b)
			c.Blocks[0].End = api.Tm{K: k, To: to, U: api.Use{Num: true}}
			judged(t, "an end of no kind", s, c, false)
			c.Blocks[0].End.U = api.Use{}
			judged(t, "an end of no kind", s, c, false)
		}
	}
	judged(t, "an end of nothing", s, api.Body{Locals: b.Locals, Blocks: []api.Block{{}}}, false)
	judged(t, "no block", s, api.Body{Locals: b.Locals}, false)
	judged(t, "no block, and handed in", s, api.Body{Locals: b.Locals, Params: 3, Blocks: []api.Block{}}, false)
	judged(t, "nothing", s, api.Body{}, false)
	judged(t, "nothing of nothing", api.Source{}, api.Body{}, false)
}

// named are so many locals, and the result.
func named(n int) []api.Local {
	var l []api.Local
	for i := range n {
		l = append(l, api.Local{Name: "x" + strconv.Itoa(i), Ty: num()})
	}
	return append(l, api.Local{Ty: num()})
}

func TestValidLocals(t *testing.T) {
	s := source(t, decls)
	b := api.Body{Blocks: []api.Block{back()}}
	for _, n := range []int{0, 1, 2, 199, 200, 201, 202, 1000} {
		b.Locals = named(n)
		for _, p := range []int{-1, 0, 1, n - 1, n, n + 1, n + 2, 9223372036854775807, -9223372036854775808} {
			b.Params = p
			judged(t, strconv.Itoa(n)+" locals, handed in "+strconv.Itoa(p), s, b, n <= 200 && p >= 0 && p <= n)
		}
	}
	b.Params, b.Locals = 0, nil
	judged(t, "without a result", s, b, false)
	b.Locals = []api.Local{{Name: "x", Ty: num()}}
	judged(t, "a result that has a name", s, b, false)
	b.Locals = []api.Local{{Name: "x", Ty: num()}, {Name: "", Ty: num()}, {Name: "y", Ty: num()}}
	judged(t, "a result that has a name", s, b, false)
	b.Locals = []api.Local{{Name: "", Ty: num()}, {Name: "x", Ty: num()}, {Name: "x", Ty: num()}, {Name: "", Ty: num()}}
	judged(t, "names that are alike, or none", s, b, true)
	b.Name = "any name?"
	judged(t, "any name", s, b, true)
	for _, text := range []string{"P", "F", "box int", "&int", "co g"} {
		b.Locals = []api.Local{{Name: "x", Ty: num()}, {Ty: typed(t, s, text)}}
		judged(t, "a result of "+text, s, b, false)
	}
	b.Locals[1].Ty = api.Ty{}
	judged(t, "a result of nothing", s, b, false)
}

// TestValidTypes: each local's type is resolved, and no reference stands in another type.
func TestValidTypes(t *testing.T) {
	s := source(t, decls)
	of := func(u api.Ty) api.Body {
		return api.Body{Locals: []api.Local{{Name: "x", Ty: num()}, {Name: "y", Ty: u}, {Ty: num()}}, Blocks: []api.Block{back()}}
	}
	for _, text := range []string{"int", "P", "D", "None", "S", "E", "F", "co g", "co h", "box int", "box box E", "box co g", "&int", "&E", "&box box S", "&mut P", "&mut co h"} {
		judged(t, text, s, of(typed(t, s, text)), true)
	}
	ref, mut := ty(api.TyRef, "", num()), ty(api.TyMut, "", num())
	for _, u := range []api.Ty{
		{}, ty(api.TyUnit, "P"), ty(-1, ""), ty(8, ""), ty(8, "P"),
		ty(api.TyStruct, "E"), ty(api.TyStruct, "Nowhere"), ty(api.TyStruct, ""), ty(api.TyEnum, "P"), ty(api.TyEnum, "Nowhere"), ty(api.TyCo, "nowhere"), ty(api.TyCo, "P"),
		ty(api.TyBox, ""), ty(api.TyRef, ""), ty(api.TyMut, ""), ty(api.TyBox, "", num(), num()), ty(api.TyRef, "", num(), num()), ty(api.TyMut, "", num(), num()),
		ty(api.TyBox, "", ty(api.TyStruct, "E")), ty(api.TyRef, "", ty(api.TyBox, "", ty(api.TyStruct, "E"))), ty(api.TyMut, "", ty(api.TyStruct, "Nowhere")),
		ty(api.TyBox, "", api.Ty{}), ty(api.TyRef, "", api.Ty{}), ty(api.TyRef, "", ty(api.TyBox, "")),
		ty(api.TyBox, "", ref), ty(api.TyBox, "", mut), ty(api.TyRef, "", ref), ty(api.TyRef, "", mut), ty(api.TyMut, "", ref), ty(api.TyMut, "", mut),
		ty(api.TyRef, "", ty(api.TyBox, "", ref)), ty(api.TyBox, "", ty(api.TyBox, "", mut)), ty(api.TyMut, "", ty(api.TyBox, "", ty(api.TyBox, "", ref))),
		ty(api.TyInt, "", ref), ty(api.TyStruct, "P", mut), ty(api.TyCo, "g", num(), ty(api.TyBox, "", ref)),
	} {
		judged(t, "a local of a wrong type", s, of(u), false)
	}
	judged(t, "a type of another source", api.Source{}, of(typed(t, s, "P")), false)
	judged(t, "numbers of any source", api.Source{}, of(num()), true)
}

// TestValidFields: what a step, or an end, does not tell of is zero; but where it stands.
func TestValidFields(t *testing.T) {
	s := source(t, decls)
	tells := map[string]string{
		"live 2": "S.Local", "dead 2": "S.Local", "end 2": "S.Local", "drop 2": "S.Local U.Move U.S.Local",
		"set 2 = 10 1 0 #1": "S.Local S.Path V.K V.Uses V.S.Local V.S.Path V.Which V.Tag",
		"print #1":          "U.Num U.N U.Move U.S.Local U.S.Path",
		"open 4 2 20":       "S.Local V.Tag V.S.Local",
		"open 5 0 -1":       "S.Local V.Tag V.S.Local",
	}
	for line, told := range tells {
		eachField(t, line, told, oneStep(t, line), func(b *api.Body) any { return &b.Blocks[0].Ins[0] }, s)
	}
	tells = map[string]string{
		"goto 1": "To", "if #1 1 2": "To U.Num U.N", "match 4 1 2 3 4 5": "To S.Local", "return #2": "U.Num U.N", "yield #1 1": "To U.Num U.N",
		"await 14 12 1": "To S.Local V.S.Local", "poll 14 12 1": "To S.Local V.S.Local", "wait 14 #1 1": "To S.Local U.Num U.N",
	}
	for line, told := range tells {
		eachField(t, line, told, oneEnd(t, line), func(b *api.Body) any { return &b.Blocks[0].End }, s)
	}
}

// TestValidDrops: a drop's use is zero, or moves just that local away.
func TestValidDrops(t *testing.T) {
	s := source(t, decls)
	for _, x := range []struct {
		u    api.Use
		want bool
	}{
		{api.Use{}, true},
		{api.Use{S: api.Spot{Path: []int{}}}, true},
		{api.Use{Move: true, S: api.Spot{Local: 2}}, true},
		{api.Use{Move: true, S: api.Spot{Local: 2, Path: []int{}}}, true},
		{api.Use{S: api.Spot{Local: 2}}, false},
		{api.Use{Move: true}, false},
		{api.Use{Move: true, S: api.Spot{Local: 1}}, false},
		{api.Use{Move: true, S: api.Spot{Local: 2, Path: []int{0}}}, false},
		{api.Use{Move: true, N: 1, S: api.Spot{Local: 2}}, false},
		{api.Use{Num: true, Move: true, S: api.Spot{Local: 2}}, false},
		{api.Use{Num: true}, false},
		{api.Use{N: 2}, false},
	} {
		b := oneStep(t, "end 2")
		b.Blocks[0].Ins[0].U = x.u
		judged(t, "a drop", s, b, x.want)
	}
	b := oneStep(t, "end 0")
	b.Blocks[0].Ins[0].U = api.Use{Move: true}
	judged(t, "a drop of the first local, which is copied", s, b, true)
}

// TestValidMore: what is valid stays so behind a block more that nothing goes to, wherever that stands; but not if that may not be.
func TestValidMore(t *testing.T) {
	s := source(t, decls)
	for _, line := range lines(rightSteps) {
		more(t, line, s, oneStep(t, line))
	}
	for _, line := range lines(rightEnds) {
		more(t, line, s, oneEnd(t, line))
	}
}

func more(t *testing.T, about string, s api.Source, b api.Body) {
	t.Helper()
	c := cloned(b)
	c.Blocks = append(c.Blocks, back())
	judged(t, "one more behind "+about, s, c, true)
	c.Blocks[len(b.Blocks)].End.To = []int{len(b.Blocks)}
	judged(t, "a wrong one more behind "+about, s, c, false)
	c.Blocks[len(b.Blocks)].End = api.Tm{K: api.TmGoto, To: []int{len(b.Blocks)}}
	judged(t, "one more, to itself, behind "+about, s, c, true)
	c.Blocks[len(b.Blocks)].End.To[0]++
	judged(t, "one more, to nowhere, behind "+about, s, c, false)
	c = cloned(b)
	c.Blocks = slices.Insert(c.Blocks, 0, back())
	for i := range c.Blocks {
		for j := range c.Blocks[i].End.To {
			c.Blocks[i].End.To[j]++
		}
	}
	judged(t, "one more ahead of "+about, s, c, true)
}

// TestExamples holds those of the document.
func TestExamples(t *testing.T) {
	text := "f 1\n\t0 x int\n\t1  int\nblock 0\n\tset 1 = 0 0 0 copy 0\n\tdead 0\n\treturn copy 1\n"
	s := source(t, "co f(x: int) { return x; }")
	b := read(t, s, text)
	judged(t, "co f", s, b, true)
	if got := mir.Text(b); got != text {
		t.Errorf("%q", got)
	}
	x := api.Spot{Local: 2, Path: []int{-1, 0}}
	b.Blocks[0].Ins[0].S = x
	if got := lines(mir.Text(b))[4]; got != "\tset 2.-1.0 = 0 0 0 copy 0" {
		t.Errorf("%q", got)
	}
}
