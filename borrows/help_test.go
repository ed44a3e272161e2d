package borrows_test

import (
	"reflect"
	"slices"
	"strconv"
	"strings"
	"testing"

	"cocoon/api"
	"cocoon/bodies"
	"cocoon/borrows"
	"cocoon/mir"
	"cocoon/parse"
)

// decls are items that most tests ask about.
const decls = `
struct P { x: int, y: int }
drop struct D { n: int }
struct W { d: D, p: P }
struct N { n: int, d: D }
enum E { A, B(int), C(D) }
co g(a: int) { return a; }
co h(a: D, b: int) { return b; }
`

// known are the locals of most bodies: the first ones are handed in. Those from 17 on are set by no step but such as make a loan that is asked about.
const known = `f 2
	0 x int
	1 y int
	2 p P
	3 r &int
	4 q &int
	5 m &mut int
	6 n &mut int
	7 s &P
	8 k &mut P
	9 e E
	10 b box P
	11 c co g
	12 w W
	13 d D
	14 u box int
	15 v N
	16 h co h
	17 ri &int
	18 mi &mut int
	19 rp &P
	20 mp &mut P
	21 re &E
	22 me &mut E
	23 rb &box P
	24 mb &mut box P
	25 rc &co g
	26 mc &mut co g
	27 rw &W
	28 mw &mut W
	29 rd &D
	30 md &mut D
	31 ru &box int
	32 mu &mut box int
	33 rv &N
	34 mv &mut N
	35 rh &co h
	36 mh &mut co h
	37  int
`

// count is how many locals known has, and holders the first one of those that no step sets.
const (
	count   = 38
	holders = 17
)

func itoa(n int) string { return strconv.Itoa(n) }

// source is a text's.
func source(t *testing.T, text string) api.Source {
	t.Helper()
	s, err, at := parse.Parse(text)
	if err != api.OK {
		t.Fatalf("%.300q is no source: %v at %d", text, err, at)
	}
	return s
}

// read is the body of a text; it may be.
func read(t *testing.T, s api.Source, text string) api.Body {
	t.Helper()
	b, ok := bodies.Read(s, text)
	if !ok || !mir.Valid(s, b) {
		t.Fatalf("%.3000s is no body that may be", text)
	}
	return b
}

// body is one of known's locals, of blocks that are told line by line.
func body(t *testing.T, blocks ...string) api.Body {
	t.Helper()
	return read(t, source(t, decls), known+told(blocks...))
}

// told is the text of blocks, the lines of each with a `;` between.
func told(blocks ...string) string {
	text := ""
	for i, x := range blocks {
		text += "block " + itoa(i) + "\n"
		for _, line := range strings.Split(x, ";") {
			text += "\t" + strings.TrimSpace(line) + "\n"
		}
	}
	return text
}

// step is one of known's locals, as a text.
func step(t *testing.T, line string) api.In {
	t.Helper()
	return body(t, line+"; return #0").Blocks[0].Ins[0]
}

// end is one of known's locals, as a text; it goes to no block behind the third one.
func end(t *testing.T, line string) api.Tm {
	t.Helper()
	return body(t, line, "return #0", "return #0").Blocks[0].End
}

// placed is a body in which each step, and each end, stands at a place of its own: At falls, so that the least one is not the first one.
func placed(b api.Body) api.Body {
	at := 100_000
	for i := range b.Blocks {
		x := &b.Blocks[i]
		for j := range x.Ins {
			at -= 3
			x.Ins[j].At = at
		}
		at -= 3
		x.End.At = at
	}
	return b
}

// where is where a step of a block, or its end, stands.
func where(b api.Body, block, step int) int {
	x := b.Blocks[block]
	if step < len(x.Ins) {
		return x.Ins[step].At
	}
	return x.End.At
}

// checked fails, if something else is told of a body.
func checked(t *testing.T, about string, s api.Source, b api.Body, want api.Errno, wantAt int) {
	t.Helper()
	if err, at := borrows.Check(s, b); err != want || at != wantAt {
		t.Errorf("%s: %v at %d, want %v at %d", about, err, at, want, wantAt)
	}
}

// isBarred fails, if a body of known's locals is not told to be barred at the line that has a `^` ahead; or is told to be so, where there is none.
func isBarred(t *testing.T, about string, blocks ...string) {
	t.Helper()
	block := slices.IndexFunc(blocks, func(x string) bool { return strings.Contains(x, "^") })
	if block < 0 {
		checked(t, about, source(t, decls), placed(body(t, blocks...)), api.OK, 0)
		return
	}
	ahead, behind, _ := strings.Cut(blocks[block], "^")
	plain := slices.Clone(blocks)
	plain[block] = ahead + behind
	b := placed(body(t, plain...))
	checked(t, about, source(t, decls), b, api.ErrBorrow, where(b, block, strings.Count(ahead, ";")))
}

// is fails, if what is told is not a text.
func is(t *testing.T, about, got, want string) {
	t.Helper()
	if got != want {
		t.Errorf("%s: %s\nwant %s", about, got, want)
	}
}

// numbers are such as a text; `-`, if there are none.
func numbers(l []int) string {
	var all []string
	for _, n := range l {
		all = append(all, itoa(n))
	}
	if len(all) == 0 {
		return "-"
	}
	return strings.Join(all, ",")
}

// active are the loans at all places of a body, as a text: places with `; ` between, blocks with ` | `.
func active(b api.Body, ask func(block, step int) []int) string {
	var blocks []string
	for block, x := range b.Blocks {
		var all []string
		for step := range len(x.Ins) + 2 {
			all = append(all, numbers(ask(block, step)))
		}
		blocks = append(blocks, strings.Join(all, "; "))
	}
	return strings.Join(blocks, " | ")
}

// asked is how a body is asked for its loans.
func asked(s api.Source, b api.Body) func(block, step int) []int {
	return func(block, step int) []int { return borrows.Active(s, b, block, step) }
}

// lent are locals as a text: their names, `-` if there are none, blocks with ` | ` between.
func lent(t *testing.T, b api.Body, l [][]bool) string {
	t.Helper()
	var blocks []string
	for block, flags := range l {
		if len(flags) != len(b.Locals) {
			t.Fatalf("%d flags behind block %d, of %d locals", len(flags), block, len(b.Locals))
		}
		var all []string
		for local, is := range flags {
			if is {
				all = append(all, b.Locals[local].Name)
			}
		}
		if len(all) == 0 {
			all = append(all, "-")
		}
		blocks = append(blocks, strings.Join(all, ","))
	}
	return strings.Join(blocks, " | ")
}

// dice are numbers one behind the other, always the same ones.
type dice uint64

func (d *dice) roll(n int) int {
	*d = *d*6364136223846793005 + 1442695040888963407
	return int(uint64(*d) >> 33 % uint64(n))
}

// cloned is a value in lists of its own, at any depth.
func cloned[T any](x T) T {
	y := x
	eachList(reflect.ValueOf(&y).Elem(), func(v reflect.Value) {
		l := reflect.MakeSlice(v.Type(), v.Len(), v.Len())
		reflect.Copy(l, v)
		v.Set(l)
	})
	return y
}

// eachList looks at all lists of a thing that are not nil, from the outside in.
func eachList(v reflect.Value, look func(reflect.Value)) {
	switch v.Kind() {
	case reflect.Struct:
		for i := range v.NumField() {
			eachList(v.Field(i), look)
		}
	case reflect.Slice:
		if v.IsNil() {
			return
		}
		look(v)
		for i := range v.Len() {
			eachList(v.Index(i), look)
		}
	}
}

// shared tells whether two of all lists of some things have memory in common, the room behind their ends, too.
func shared(things ...any) bool {
	type piece struct{ from, to uintptr }
	var l []piece
	for _, x := range things {
		eachList(reflect.ValueOf(x), func(v reflect.Value) {
			if n := uintptr(v.Cap()) * v.Type().Elem().Size(); n > 0 {
				l = append(l, piece{v.Pointer(), v.Pointer() + n})
			}
		})
	}
	slices.SortFunc(l, func(a, b piece) int { return int(int64(a.from) - int64(b.from)) })
	for i := range l[min(1, len(l)):] {
		if l[i].to > l[i+1].from {
			return true
		}
	}
	return false
}
