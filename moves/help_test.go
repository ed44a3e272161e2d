package moves_test

import (
	"reflect"
	"slices"
	"strconv"
	"strings"
	"testing"

	"cocoon/api"
	"cocoon/bodies"
	"cocoon/mir"
	"cocoon/moves"
	"cocoon/parse"
)

// decls are items that most tests ask about: values of D, W and E drop, those of P don't.
const decls = `
struct P { x: int, y: int }
drop struct D { n: int }
struct W { d: D, k: int, l: D }
enum E { A, B(int), C(D) }
co g(a: int) { return a; }
co h(a: co h, b: D) { return 0; }
`

// known are the locals of most bodies: all of them are handed in, but the last one.
const known = `f 13
	0 n int
	1 d D
	2 f D
	3 w W
	4 e E
	5 b box int
	6 r &W
	7 m &mut W
	8 c co g
	9 h co h
	10 p P
	11 bd box D
	12 k &mut W
	13  int
`

// count is how many locals known has, and which of them drop.
const count = 14

func drops(local int) bool {
	return slices.Contains([]int{1, 2, 3, 4, 5, 8, 9, 11}, local)
}

func itoa(n int) string { return strconv.Itoa(n) }

// source is a text's.
func source(t *testing.T, text string) api.Source {
	t.Helper()
	s, err, at := parse.Parse(text)
	if err != api.OK {
		t.Fatalf("%.300q is no source: %v at %d", text, err, at)
	}
	return s
}

// read is the body of a text; it may be.
func read(t *testing.T, s api.Source, text string) api.Body {
	t.Helper()
	b, ok := bodies.Read(s, text)
	if !ok || !mir.Valid(s, b) {
		t.Fatalf("%.3000s is no body that may be", text)
	}
	return b
}

// body is one of known's locals, of blocks that are told line by line.
func body(t *testing.T, blocks ...string) api.Body {
	t.Helper()
	return read(t, source(t, decls), known+told(blocks...))
}

// told is the text of blocks, the lines of each with a `;` between.
func told(blocks ...string) string {
	text := ""
	for i, x := range blocks {
		text += "block " + itoa(i) + "\n"
		for _, line := range strings.Split(x, ";") {
			text += "\t" + strings.TrimSpace(line) + "\n"
		}
	}
	return text
}

// handed are the first so many locals handed in, no other ones.
func handed(b api.Body, params int) api.Body {
	b.Params = params
	return b
}

// states are such as a text: a byte for each local, those of a block one behind the other, `nil` of none, blocks with ` | ` between.
func states(l [][][]bool) string {
	var blocks []string
	for _, block := range l {
		if block == nil {
			blocks = append(blocks, "nil")
			continue
		}
		var all []string
		for _, x := range block {
			text := ""
			for _, set := range x {
				text += map[bool]string{false: ".", true: "S"}[set]
			}
			all = append(all, text)
		}
		blocks = append(blocks, strings.Join(all, " "))
	}
	return strings.Join(blocks, " | ")
}

// is fails, if states are not those of a text.
func is(t *testing.T, about string, got [][][]bool, want string) {
	t.Helper()
	if states(got) != want {
		t.Errorf("%s: %s\nwant %s", about, states(got), want)
	}
}

// checked fails, if something else is told of a body.
func checked(t *testing.T, about string, s api.Source, b api.Body, want api.Errno, wantAt int) {
	t.Helper()
	if err, at := moves.Check(s, b); err != want || at != wantAt {
		t.Errorf("%s: %v at %d, want %v at %d", about, err, at, want, wantAt)
	}
}

// dice are numbers one behind the other, always the same ones.
type dice uint64

func (d *dice) roll(n int) int {
	*d = *d*6364136223846793005 + 1442695040888963407
	return int(uint64(*d) >> 33 % uint64(n))
}

// cloned is a value in lists of its own, at any depth.
func cloned[T any](x T) T {
	y := x
	eachList(reflect.ValueOf(&y).Elem(), func(v reflect.Value) {
		l := reflect.MakeSlice(v.Type(), v.Len(), v.Len())
		reflect.Copy(l, v)
		v.Set(l)
	})
	return y
}

// eachList looks at all lists of a thing that are not nil, from the outside in.
func eachList(v reflect.Value, look func(reflect.Value)) {
	switch v.Kind() {
	case reflect.Struct:
		for i := range v.NumField() {
			eachList(v.Field(i), look)
		}
	case reflect.Slice:
		if v.IsNil() {
			return
		}
		look(v)
		for i := range v.Len() {
			eachList(v.Index(i), look)
		}
	}
}

// shared tells whether two of all lists of some things have memory in common.
func shared(things ...any) bool {
	type piece struct{ from, to uintptr }
	var l []piece
	for _, x := range things {
		eachList(reflect.ValueOf(x), func(v reflect.Value) {
			if n := uintptr(v.Cap()) * v.Type().Elem().Size(); n > 0 {
				l = append(l, piece{v.Pointer(), v.Pointer() + n})
			}
		})
	}
	slices.SortFunc(l, func(a, b piece) int { return int(int64(a.from) - int64(b.from)) })
	for i := range l[min(1, len(l)):] {
		if l[i].to > l[i+1].from {
			return true
		}
	}
	return false
}
