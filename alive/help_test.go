package alive_test

import (
	"reflect"
	"slices"
	"strconv"
	"strings"
	"testing"

	"cocoon/alive"
	"cocoon/api"
	"cocoon/bodies"
	"cocoon/mir"
	"cocoon/parse"
)

// right are items of which coroutines are built.
const right = `
struct P { x: int, y: int }
drop struct D { n: int }
struct W { d: D, k: int, l: D }
enum E { A, B(int), C(D) }
co g(a: int) { return a; }
co h(a: co h, b: D) { return 0; }
`

// decls are items that most tests ask about; what an R holds may be moved into the local out of which it comes.
const decls = right + "enum R { A(R), B }"

// known are the locals of most bodies: all of them are handed in, but the last one.
const known = `f 14
	0 n int
	1 d D
	2 f D
	3 w W
	4 e E
	5 b box int
	6 r &W
	7 m &mut W
	8 c co g
	9 h co h
	10 p P
	11 bd box D
	12 k &mut W
	13 t R
	14  int
`

// count is how many locals known has.
const count = 15

// small are few locals: numbers, and an enum, and the result.
const small = `
	0 a int
	1 b int
	2 c int
	3 e E
	4  int
`

func itoa(n int) string { return strconv.Itoa(n) }

// source is a text's.
func source(t *testing.T, text string) api.Source {
	t.Helper()
	s, err, at := parse.Parse(text)
	if err != api.OK {
		t.Fatalf("%.300q is no source: %v at %d", text, err, at)
	}
	return s
}

// read is the body of a text; it may be.
func read(t *testing.T, s api.Source, text string) api.Body {
	t.Helper()
	b, ok := bodies.Read(s, text)
	if !ok || !mir.Valid(s, b) {
		t.Fatalf("%.3000s is no body that may be", text)
	}
	return b
}

// body is one of known's locals, of blocks that are told line by line.
func body(t *testing.T, blocks ...string) api.Body {
	t.Helper()
	return read(t, source(t, decls), known+told(blocks...))
}

// fewBody is one of small's locals, of which so many are handed in.
func fewBody(t *testing.T, s api.Source, params int, blocks ...string) api.Body {
	t.Helper()
	return read(t, s, "f "+itoa(params)+small+told(blocks...))
}

// told is the text of blocks, the lines of each with a `;` between.
func told(blocks ...string) string {
	text := ""
	for i, x := range blocks {
		text += "block " + itoa(i) + "\n"
		for _, line := range strings.Split(x, ";") {
			text += "\t" + strings.TrimSpace(line) + "\n"
		}
	}
	return text
}

// How a flag of a local is told.
const (
	yes = 'S'
	no  = '.'
)

// row is the flags of some locals as a text, a byte for each.
func row(flags []bool) string {
	text := ""
	for _, x := range flags {
		text += map[bool]string{false: string(no), true: string(yes)}[x]
	}
	return text
}

// rows are such texts one behind the other.
func rows(l [][]bool) string {
	var all []string
	for _, x := range l {
		all = append(all, row(x))
	}
	return strings.Join(all, " ")
}

// states are those of each block, `nil` of none, blocks with ` | ` between.
func states(l [][][]bool) string {
	var blocks []string
	for _, block := range l {
		if block == nil {
			blocks = append(blocks, "nil")
			continue
		}
		blocks = append(blocks, rows(block))
	}
	return strings.Join(blocks, " | ")
}

// is fails, if what is told is not a text.
func is(t *testing.T, about, got, want string) {
	t.Helper()
	if got != want {
		t.Errorf("%s: %s\nwant %s", about, got, want)
	}
}

// saved are the places of the locals that are saved, as a text.
func saved(s api.Source, b api.Body) string {
	var l []string
	for _, x := range alive.Saved(s, b) {
		l = append(l, itoa(x))
	}
	return strings.Join(l, " ")
}

// dice are numbers one behind the other, always the same ones.
type dice uint64

func (d *dice) roll(n int) int {
	*d = *d*6364136223846793005 + 1442695040888963407
	return int(uint64(*d) >> 33 % uint64(n))
}

// cloned is a value in lists of its own, at any depth.
func cloned[T any](x T) T {
	y := x
	eachList(reflect.ValueOf(&y).Elem(), func(v reflect.Value) {
		l := reflect.MakeSlice(v.Type(), v.Len(), v.Len())
		reflect.Copy(l, v)
		v.Set(l)
	})
	return y
}

// eachList looks at all lists of a thing that are not nil, from the outside in.
func eachList(v reflect.Value, look func(reflect.Value)) {
	switch v.Kind() {
	case reflect.Struct:
		for i := range v.NumField() {
			eachList(v.Field(i), look)
		}
	case reflect.Slice:
		if v.IsNil() {
			return
		}
		look(v)
		for i := range v.Len() {
			eachList(v.Index(i), look)
		}
	}
}

// shared tells whether two of all lists of some things have memory in common, the room behind their ends, too.
func shared(things ...any) bool {
	type piece struct{ from, to uintptr }
	var l []piece
	for _, x := range things {
		eachList(reflect.ValueOf(x), func(v reflect.Value) {
			if n := uintptr(v.Cap()) * v.Type().Elem().Size(); n > 0 {
				l = append(l, piece{v.Pointer(), v.Pointer() + n})
			}
		})
	}
	slices.SortFunc(l, func(a, b piece) int { return int(int64(a.from) - int64(b.from)) })
	for i := range l[min(1, len(l)):] {
		if l[i].to > l[i+1].from {
			return true
		}
	}
	return false
}
