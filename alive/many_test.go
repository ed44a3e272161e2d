package alive_test

import (
	"reflect"
	"slices"
	"strings"
	"testing"

	"cocoon/alive"
	"cocoon/api"
	"cocoon/build"
	"cocoon/mir"
)

// maker makes bodies of known's locals, of the steps and ends that are held against all. At tells which of these a step, or an end, is.
type maker struct {
	*dice
	api.Source
	empty api.Body
	steps []api.In
	ends  []api.Tm
}

func newMaker(t *testing.T, d *dice) *maker {
	t.Helper()
	m := &maker{dice: d, Source: source(t, decls), empty: body(t, "return #0")}
	for i, x := range steps() {
		in := body(t, x.line+"; return #0").Blocks[0].Ins[0]
		in.At = i
		m.steps = append(m.steps, in)
	}
	for i, x := range ends() {
		end := body(t, x.line, "return #0", "return #0").Blocks[0].End
		end.At = i
		m.ends = append(m.ends, end)
	}
	m.empty.Blocks = nil
	return m
}

func (m *maker) body() api.Body {
	b := cloned(m.empty)
	b.Params = m.roll(count)
	b.Blocks = make([]api.Block, 1+m.roll(7))
	for i := range b.Blocks {
		x := &b.Blocks[i]
		for range m.roll(6) {
			x.Ins = append(x.Ins, m.step())
		}
		x.End = cloned(m.ends[m.roll(len(m.ends))])
		for j := range x.End.To {
			x.End.To[j] = m.roll(len(b.Blocks))
		}
	}
	return b
}

// step is one of all; each second one begins, or ends, some local.
func (m *maker) step() api.In {
	if m.roll(2) == 0 {
		return cloned(m.steps[m.roll(len(m.steps))])
	}
	x := cloned(m.steps[0])
	x.K = [...]api.InKind{api.InLive, api.InDead}[m.roll(2)]
	x.S.Local = m.roll(count - 1)
	x.At = placing
	return x
}

// placing is the At of steps that begin, or end, some local.
const placing = -1

// TestModel holds all that is told of many bodies against the model.
func TestModel(t *testing.T) {
	d := dice(13)
	m := newMaker(t, &d)
	got := counts{}
	for range 1500 {
		b := m.body()
		if !mir.Valid(m.Source, b) {
			t.Fatalf("%s may not be", mir.Text(b))
		}
		agrees(t, m.Source, b)
		got.body(m.Source, b)
	}
	got.enough(t, 200)
}

// agrees fails, if what is told of a body is not what the model tells of it.
func agrees(t *testing.T, s api.Source, b api.Body) {
	t.Helper()
	m := model{b}
	storage := m.storage()
	is(t, "alive", states(alive.Alive(s, b)), states(m.alive()))
	is(t, "storage", states(alive.Storage(s, b)), states(storage))
	is(t, "saved", saved(s, b), m.saved(storage))
	is(t, "holds", rows(alive.Holds(s, b)), rows(m.holds(storage)))
	if t.Failed() {
		t.Fatal(mir.Text(b))
	}
}

// counts are how often something was looked at.
type counts map[string]int

func (c counts) body(s api.Source, b api.Body) {
	used, placed := alive.Alive(s, b), alive.Storage(s, b)
	for i, x := range b.Blocks {
		c["end "+itoa(int(x.End.K))]++
		for _, in := range x.Ins {
			c["step "+itoa(int(in.K))]++
		}
		if placed[i] == nil {
			c["not reached"]++
			continue
		}
		for local, is := range used[i][0] {
			c[map[bool]string{false: "not alive", true: "alive"}[is]]++
			c[map[bool]string{false: "no place", true: "a place"}[placed[i][0][local]]]++
		}
	}
	for _, l := range alive.Holds(s, b) {
		for _, is := range l {
			c[map[bool]string{false: "apart", true: "at once"}[is]]++
		}
	}
	if n := len(alive.Saved(s, b)); 0 < n && n < count-1 {
		c["saved"]++
	}
}

func (c counts) enough(t *testing.T, least int) {
	t.Helper()
	words := strings.Split("not reached,alive,not alive,a place,no place,at once,apart,saved", ",")
	for word, n := range map[string]int{"step ": int(api.InOpen), "end ": int(api.TmWait)} {
		for k := range n + 1 {
			words = append(words, word+itoa(k))
		}
	}
	for _, word := range words {
		if c[word] < least {
			t.Errorf("%d times %s, too few to tell", c[word], word)
		}
	}
}

// TestHoldsOnWays: what is not alive is not used on any way, till it is set; what has a place on a way may have one; two that have one at once there may hold at once, and clash both ways; what has one where the way is suspended is saved.
func TestHoldsOnWays(t *testing.T) {
	d := dice(31)
	m := newMaker(t, &d)
	for range 800 {
		b := m.body()
		w := way{T: t, Body: b, used: alive.Alive(m.Source, b), placed: alive.Storage(m.Source, b), holds: alive.Holds(m.Source, b), saved: make([]bool, count)}
		w.saved[count-1] = true
		for _, x := range alive.Saved(m.Source, b) {
			w.saved[x] = true
		}
		w.clash()
		for range 4 {
			w.walk(&d)
		}
	}
}

// way is a look at ways through a body.
type way struct {
	*testing.T
	api.Body
	used, placed [][][]bool
	holds        [][]bool
	saved        []bool
	has          []bool // what has a place on it
	blocks       []int  // those that it came through
}

func (w way) clash() {
	w.Helper()
	for i, l := range w.holds {
		for j, x := range l {
			if x != w.holds[j][i] || i == j && !x {
				w.Fatalf("%d and %d hold at once: %v\n%s", i, j, x, mir.Text(w.Body))
			}
		}
	}
}

// walk goes on for some blocks, and back again.
func (w way) walk(d *dice) {
	w.Helper()
	w.has = make([]bool, count)
	for i := range w.has {
		w.has[i] = i < w.Params || i == count-1
	}
	block := 0
	for range 20 {
		x := w.Blocks[block]
		for step, in := range x.Ins {
			w.place(block, step)
			switch in.K {
			case api.InLive:
				w.has[in.S.Local] = true
			case api.InDead:
				w.has[in.S.Local] = false
			}
		}
		w.place(block, len(x.Ins))
		w.suspended(x.End)
		w.place(block, len(x.Ins)+1)
		w.blocks = append(w.blocks, block)
		if len(x.End.To) == 0 {
			break
		}
		block = x.End.To[d.roll(len(x.End.To))]
	}
	w.back()
}

// place looks at what has a place.
func (w way) place(block, step int) {
	w.Helper()
	for i, has := range w.has {
		if has && !w.placed[block][step][i] {
			w.Fatalf("at %d of block %d local %d has a place\n%s", step, block, i, mir.Text(w.Body))
		}
		for j := range i {
			if has && w.has[j] && !w.holds[i][j] {
				w.Fatalf("at %d of block %d both %d and %d have a place\n%s", step, block, i, j, mir.Text(w.Body))
			}
		}
	}
}

func (w way) suspended(x api.Tm) {
	w.Helper()
	if word := strings.Fields(ends()[x.At].line)[0]; word != "yield" && word != "await" && word != "wait" {
		return
	}
	for i, has := range w.has {
		if has && !w.saved[i] {
			w.Fatalf("%d has a place at the end %q\n%s", i, ends()[x.At].line, mir.Text(w.Body))
		}
	}
}

// back looks at what is used later on the way: of each local, whether the next thing that happens to it is a use.
func (w way) back() {
	w.Helper()
	later := make([]bool, count)
	for _, block := range slices.Backward(w.blocks) {
		x := w.Blocks[block]
		w.later(block, len(x.Ins)+1, later)
		happen(later, ends()[x.End.At])
		w.later(block, len(x.Ins), later)
		for step := len(x.Ins) - 1; step >= 0; step-- {
			if in := x.Ins[step]; in.At == placing {
				later[in.S.Local] = false
			} else {
				happen(later, steps()[in.At])
			}
			w.later(block, step, later)
		}
	}
}

// happen makes what is used later behind a deed what is so ahead of it.
func happen(later []bool, x deed) {
	for _, n := range x.sets {
		later[n] = false
	}
	for _, n := range x.uses {
		later[n] = true
	}
}

func (w way) later(block, step int, later []bool) {
	w.Helper()
	for i, used := range later {
		if used && !w.used[block][step][i] {
			w.Fatalf("at %d of block %d local %d is used later\n%s", step, block, i, mir.Text(w.Body))
		}
	}
}

// TestMemory: nothing that is handed in is changed, nor kept; an answer has memory of its own, and so have all its lists, with the room behind them.
func TestMemory(t *testing.T) {
	d := dice(33)
	m := newMaker(t, &d)
	for range 200 {
		b := m.body()
		was, wasSource := cloned(b), cloned(m.Source)
		used, places := alive.Alive(m.Source, b), alive.Storage(m.Source, b)
		saved, holds := alive.Saved(m.Source, b), alive.Holds(m.Source, b)
		if !reflect.DeepEqual(b, was) || !reflect.DeepEqual(m.Source, wasSource) {
			t.Fatalf("%s\nwas %s", mir.Text(b), mir.Text(was))
		}
		if shared(m.Source, b, used, places, saved, holds) {
			t.Fatalf("memory is shared: %s", mir.Text(b))
		}
		for _, states := range append(append(used, places...), holds) {
			for _, state := range states {
				clear(state)
			}
		}
		clear(saved)
		agrees(t, m.Source, b)
	}
}

// TestGrow: what is added to what is told of one local is not told of the next one.
func TestGrow(t *testing.T) {
	s := source(t, decls)
	b := fewBody(t, s, 0, "return #0")
	l := alive.Holds(s, b)
	for i := range l {
		l[i] = append(l[i], true, true, true)
	}
	is(t, "the rows", rows(l), "S....SSS .S...SSS ..S..SSS ...S.SSS ....SSSS")
}

// TestLong: bodies of many blocks and locals take no long time.
func TestLong(t *testing.T) {
	const long = 2000
	s := source(t, decls)
	number := api.Ty{K: api.TyInt}
	b := api.Body{Params: api.MaxLocals, Blocks: make([]api.Block, long)}
	for range api.MaxLocals {
		b.Locals = append(b.Locals, api.Local{Name: "x", Ty: number})
	}
	b.Locals = append(b.Locals, api.Local{Ty: number})
	for i := range b.Blocks {
		x := &b.Blocks[i]
		at := api.Spot{Local: i % api.MaxLocals}
		x.Ins = []api.In{
			{K: api.InPrint, U: api.Use{S: at}},
			{K: api.InDead, S: at},
			{K: api.InLive, S: at},
			{K: api.InSet, S: at, V: api.Value{Uses: []api.Use{{Num: true}}}},
		}
		x.End = api.Tm{K: api.TmYield, U: api.Use{Num: true}, To: []int{(i + 1) % long}}
	}
	used, places, holds := alive.Alive(s, b), alive.Storage(s, b), alive.Holds(s, b)
	for i := range api.MaxLocals {
		if !used[0][0][i] || !places[long-1][5][i] || !holds[i][(i+77)%api.MaxLocals] || !holds[i][api.MaxLocals] {
			t.Errorf("local %d is not used, or has no place", i)
		}
		if b := i + 1; used[i][2][i] || used[i][3][i] || !used[i][4][i] || used[b][0][api.MaxLocals] {
			t.Errorf("local %d is not set in its block", i)
		}
	}
	if n := len(alive.Saved(s, b)); n != api.MaxLocals {
		t.Errorf("%d are saved", n)
	}
}

// TestRows: locals of rows one behind the other, as they are built of a text of great length, hold never at once.
func TestRows(t *testing.T) {
	const long = 190
	text := "co f() { "
	for i := range long {
		text += "if 1 { let x" + itoa(i) + ": int = 1; " + strings.Repeat("while x"+itoa(i)+" { yield 1; } ", 10) + "} "
	}
	s := source(t, text+"return 0; }")
	b := build.Body(s, 0)
	l := alive.Holds(s, b)
	for i := range long {
		for j := range long {
			if l[i][j] != (i == j) {
				t.Fatalf("%d and %d hold at once: %v", i, j, l[i][j])
			}
		}
	}
	if n := len(alive.Saved(s, b)); n != long {
		t.Errorf("%d are saved", n)
	}
}
