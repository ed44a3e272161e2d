package pins_test

import (
	"reflect"
	"slices"
	"strconv"
	"strings"
	"testing"

	"cocoon/api"
	"cocoon/bodies"
	"cocoon/build"
	"cocoon/mir"
	"cocoon/parse"
	"cocoon/pins"
)

// decls are items that most tests ask about. Of the coroutines s alone may not be moved behind a poll: it is suspended while it holds a reference to what is its own.
const decls = `
struct P { x: int, y: int }
drop struct D { n: int }
struct K { a: co s, b: co s, c: co s }
struct H { n: int, a: co g, b: co s, d: D }
enum E { A, B(co s), C(co g) }
co s(x: int) { let m: &mut int = &mut x; yield 1; m.* = 2; return x; }
co g(a: int) { yield a; return a; }
co h(a: co s, n: int, b: co g) { n = await b; return n; }
`

// known are the locals of most bodies: coroutines, what holds some, and others.
const known = `f 2
	0 n int
	1 p P
	2 s co s
	3 t co s
	4 g co g
	5 u co g
	6 e E
	7 b box co s
	8 c box co g
	9 k K
	10 h H
	11 d D
	12 q co h
	13 w co s
	14 m &mut P
	15 r &co s
	16  int
`

func itoa(n int) string { return strconv.Itoa(n) }

// source is a text's.
func source(t *testing.T, text string) api.Source {
	t.Helper()
	s, err, at := parse.Parse(text)
	if err != api.OK {
		t.Fatalf("%.300q is no source: %v at %d", text, err, at)
	}
	return s
}

// built are the bodies of all coroutines of a source that is right.
func built(t *testing.T, s api.Source) []api.Body {
	t.Helper()
	all := build.Bodies(s)
	if len(all) != len(s.Fns) || len(all) == 0 {
		t.Fatalf("nothing is built of %+v", s)
	}
	return all
}

// read is the body of a text; it may be.
func read(t *testing.T, s api.Source, text string) api.Body {
	t.Helper()
	b, ok := bodies.Read(s, text)
	if !ok || !mir.Valid(s, b) {
		t.Fatalf("%.3000s is no body that may be", text)
	}
	return b
}

// body is one of known's locals, of blocks that are told line by line.
func body(t *testing.T, blocks ...string) api.Body {
	t.Helper()
	return read(t, source(t, decls), known+told(blocks...))
}

// told is the text of blocks, the lines of each with a `;` between.
func told(blocks ...string) string {
	text := ""
	for i, x := range blocks {
		text += "block " + itoa(i) + "\n"
		for _, line := range strings.Split(x, ";") {
			text += "\t" + strings.TrimSpace(line) + "\n"
		}
	}
	return text
}

// placed is a body in which each step, and each end, stands at a place of its own: At falls, so that the least one is not the first one.
func placed(b api.Body) api.Body {
	at := 100_000
	for i := range b.Blocks {
		x := &b.Blocks[i]
		for j := range x.Ins {
			at -= 3
			x.Ins[j].At = at
		}
		at -= 3
		x.End.At = at
	}
	return b
}

// checked fails, if something else is told of a body.
func checked(t *testing.T, about string, s api.Source, all []api.Body, b api.Body, want api.Errno, wantAt int) {
	t.Helper()
	if err, at := pins.Check(s, all, b); err != want || at != wantAt {
		t.Errorf("%s: %v at %d, want %v at %d", about, err, at, want, wantAt)
	}
}

// isPinned fails, if a body of known's locals is not told to move what is pinned at the line that has a `^` ahead; or is told to do so, where there is none.
func isPinned(t *testing.T, about string, blocks ...string) {
	t.Helper()
	s := source(t, decls)
	block := slices.IndexFunc(blocks, func(x string) bool { return strings.Contains(x, "^") })
	if block < 0 {
		checked(t, about, s, built(t, s), placed(body(t, blocks...)), api.OK, 0)
		return
	}
	ahead, behind, _ := strings.Cut(blocks[block], "^")
	plain := slices.Clone(blocks)
	plain[block] = ahead + behind
	b := placed(body(t, plain...))
	checked(t, about, s, built(t, s), b, api.ErrPin, b.Blocks[block].Ins[strings.Count(ahead, ";")].At)
}

// is fails, if what is told is not a text.
func is(t *testing.T, about, got, want string) {
	t.Helper()
	if got != want {
		t.Errorf("%s: %s\nwant %s", about, got, want)
	}
}

// names are those of some of a body's locals; `-`, if there are none.
func names(b api.Body, flags []bool) string {
	var all []string
	for local, is := range flags {
		if is {
			all = append(all, b.Locals[local].Name)
		}
	}
	if len(all) == 0 {
		return "-"
	}
	return strings.Join(all, ",")
}

// polled are the locals that may be polled at each place of a body: those of a block with blanks between, `nil` of none, blocks with ` | ` between.
func polled(t *testing.T, b api.Body, l [][][]bool) string {
	t.Helper()
	var blocks []string
	for block, states := range l {
		if states == nil {
			blocks = append(blocks, "nil")
			continue
		}
		if len(states) != len(b.Blocks[block].Ins)+2 {
			t.Fatalf("%d states of block %d", len(states), block)
		}
		var all []string
		for _, flags := range states {
			if len(flags) != len(b.Locals) {
				t.Fatalf("%d flags in block %d, of %d locals", len(flags), block, len(b.Locals))
			}
			all = append(all, names(b, flags))
		}
		blocks = append(blocks, strings.Join(all, " "))
	}
	return strings.Join(blocks, " | ")
}

// dice are numbers one behind the other, always the same ones.
type dice uint64

func (d *dice) roll(n int) int {
	*d = *d*6364136223846793005 + 1442695040888963407
	return int(uint64(*d) >> 33 % uint64(n))
}

// cloned is a value in lists of its own, at any depth.
func cloned[T any](x T) T {
	y := x
	eachList(reflect.ValueOf(&y).Elem(), func(v reflect.Value) {
		l := reflect.MakeSlice(v.Type(), v.Len(), v.Len())
		reflect.Copy(l, v)
		v.Set(l)
	})
	return y
}

// eachList looks at all lists of a thing that are not nil, from the outside in.
func eachList(v reflect.Value, look func(reflect.Value)) {
	switch v.Kind() {
	case reflect.Struct:
		for i := range v.NumField() {
			eachList(v.Field(i), look)
		}
	case reflect.Slice:
		if v.IsNil() {
			return
		}
		look(v)
		for i := range v.Len() {
			eachList(v.Index(i), look)
		}
	}
}

// shared tells whether two of all lists of some things have memory in common, the room behind their ends, too.
func shared(things ...any) bool {
	type piece struct{ from, to uintptr }
	var l []piece
	for _, x := range things {
		eachList(reflect.ValueOf(x), func(v reflect.Value) {
			if n := uintptr(v.Cap()) * v.Type().Elem().Size(); n > 0 {
				l = append(l, piece{v.Pointer(), v.Pointer() + n})
			}
		})
	}
	slices.SortFunc(l, func(a, b piece) int { return int(int64(a.from) - int64(b.from)) })
	for i := range l[min(1, len(l)):] {
		if l[i].to > l[i+1].from {
			return true
		}
	}
	return false
}
