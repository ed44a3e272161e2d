package loans_test

import (
	"reflect"
	"slices"
	"strconv"
	"strings"
	"testing"

	"cocoon/api"
	"cocoon/bodies"
	"cocoon/loans"
	"cocoon/mir"
	"cocoon/parse"
)

// right are items of which coroutines are built.
const right = `
struct P { x: int, y: int }
drop struct D { n: int }
struct W { d: D, p: P }
enum E { A, B(int), C(D) }
co g(a: int) { return a; }
`

// decls are items that most tests ask about. References stand in H and V, which no check would take, but a body of theirs may be.
const decls = right + `
struct H { r: &int, m: &mut P }
enum V { A(&int), B }
`

// known are the locals of most bodies: the first ones are handed in.
const known = `f 3
	0 x int
	1 y int
	2 p P
	3 r &int
	4 q &int
	5 m &mut int
	6 n &mut int
	7 s &P
	8 k &mut P
	9 e E
	10 b box P
	11 h H
	12 v V
	13 c co g
	14 w W
	15  int
`

// count is how many locals known has.
const count = 16

func itoa(n int) string { return strconv.Itoa(n) }

// source is a text's.
func source(t *testing.T, text string) api.Source {
	t.Helper()
	s, err, at := parse.Parse(text)
	if err != api.OK {
		t.Fatalf("%.300q is no source: %v at %d", text, err, at)
	}
	return s
}

// read is the body of a text; it may be.
func read(t *testing.T, s api.Source, text string) api.Body {
	t.Helper()
	b, ok := bodies.Read(s, text)
	if !ok || !mir.Valid(s, b) {
		t.Fatalf("%.3000s is no body that may be", text)
	}
	return b
}

// body is one of known's locals, of blocks that are told line by line.
func body(t *testing.T, blocks ...string) api.Body {
	t.Helper()
	return read(t, source(t, decls), known+told(blocks...))
}

// told is the text of blocks, the lines of each with a `;` between.
func told(blocks ...string) string {
	text := ""
	for i, x := range blocks {
		text += "block " + itoa(i) + "\n"
		for _, line := range strings.Split(x, ";") {
			text += "\t" + strings.TrimSpace(line) + "\n"
		}
	}
	return text
}

// spot is a text's.
func spot(t *testing.T, text string) api.Spot {
	t.Helper()
	x, ok := bodies.Spot(text)
	if !ok {
		t.Fatalf("%q is no spot", text)
	}
	return x
}

// spotText is a spot's text.
func spotText(x api.Spot) string {
	text := itoa(x.Local)
	for _, step := range x.Path {
		text += "." + itoa(step)
	}
	return text
}

// list are loans as a text: where each is, and of what.
func list(l []loans.Loan) string {
	var all []string
	for _, x := range l {
		all = append(all, itoa(x.Block)+":"+itoa(x.Step)+map[bool]string{false: " & ", true: " &mut "}[x.Mut]+spotText(x.S))
	}
	return strings.Join(all, ", ")
}

// state is who holds what at a place, as a text: names, each with the places of its loans; `-`, if nobody holds any.
func state(t *testing.T, b api.Body, flags []bool) string {
	t.Helper()
	n := len(loans.Loans(b))
	if len(flags) != n*len(b.Locals) {
		t.Fatalf("%d flags, of %d locals and %d loans", len(flags), len(b.Locals), n)
	}
	var all []string
	for local, x := range b.Locals {
		var l []string
		for loan := range n {
			if flags[local*n+loan] {
				l = append(l, itoa(loan))
			}
		}
		if len(l) > 0 {
			all = append(all, x.Name+strings.Join(l, ","))
		}
	}
	if len(all) == 0 {
		return "-"
	}
	return strings.Join(all, " ")
}

// states are those of each block, `nil` of none, blocks with ` | ` between.
func states(t *testing.T, b api.Body, l [][][]bool) string {
	t.Helper()
	var blocks []string
	for _, block := range l {
		var all []string
		for _, flags := range block {
			all = append(all, state(t, b, flags))
		}
		if block == nil {
			all = append(all, "nil")
		}
		blocks = append(blocks, strings.Join(all, "; "))
	}
	return strings.Join(blocks, " | ")
}

// held is what is held in a body of known's locals, as a text.
func held(t *testing.T, blocks ...string) string {
	t.Helper()
	b := body(t, blocks...)
	return states(t, b, loans.Held(source(t, decls), b))
}

// is fails, if what is told is not a text.
func is(t *testing.T, about, got, want string) {
	t.Helper()
	if got != want {
		t.Errorf("%s: %s\nwant %s", about, got, want)
	}
}

// dice are numbers one behind the other, always the same ones.
type dice uint64

func (d *dice) roll(n int) int {
	*d = *d*6364136223846793005 + 1442695040888963407
	return int(uint64(*d) >> 33 % uint64(n))
}

// cloned is a value in lists of its own, at any depth.
func cloned[T any](x T) T {
	y := x
	eachList(reflect.ValueOf(&y).Elem(), func(v reflect.Value) {
		l := reflect.MakeSlice(v.Type(), v.Len(), v.Len())
		reflect.Copy(l, v)
		v.Set(l)
	})
	return y
}

// eachList looks at all lists of a thing that are not nil, from the outside in.
func eachList(v reflect.Value, look func(reflect.Value)) {
	switch v.Kind() {
	case reflect.Struct:
		for i := range v.NumField() {
			eachList(v.Field(i), look)
		}
	case reflect.Slice:
		if v.IsNil() {
			return
		}
		look(v)
		for i := range v.Len() {
			eachList(v.Index(i), look)
		}
	}
}

// shared tells whether two of all lists of some things have memory in common, the room behind their ends, too.
func shared(things ...any) bool {
	type piece struct{ from, to uintptr }
	var l []piece
	for _, x := range things {
		eachList(reflect.ValueOf(x), func(v reflect.Value) {
			if n := uintptr(v.Cap()) * v.Type().Elem().Size(); n > 0 {
				l = append(l, piece{v.Pointer(), v.Pointer() + n})
			}
		})
	}
	slices.SortFunc(l, func(a, b piece) int { return int(int64(a.from) - int64(b.from)) })
	for i := range l[min(1, len(l)):] {
		if l[i].to > l[i+1].from {
			return true
		}
	}
	return false
}
