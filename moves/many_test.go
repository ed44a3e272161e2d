package moves_test

import (
	"reflect"
	"slices"
	"strings"
	"testing"

	"cocoon/api"
	"cocoon/mir"
	"cocoon/moves"
)

// maker makes bodies of known's locals, of the steps and ends that are held against all. The last two digits of At tell which of these a step, or an end, is.
type maker struct {
	*dice
	api.Source
	empty api.Body
	steps []api.In
	ends  []api.Tm
}

func newMaker(t *testing.T, d *dice) *maker {
	t.Helper()
	m := &maker{dice: d, Source: source(t, decls), empty: body(t, "return #0")}
	for _, x := range steps() {
		m.steps = append(m.steps, body(t, x.line+"; return #0").Blocks[0].Ins[0])
	}
	for _, x := range ends() {
		back := "return #0"
		m.ends = append(m.ends, body(t, x.line, back, back, back, back).Blocks[0].End)
	}
	m.empty.Blocks = nil
	return m
}

// plain is what the ends are that are put in the place of others: they need nothing.
const plain = 99

func (m *maker) body() api.Body {
	b := cloned(m.empty)
	b.Params = m.roll(count)
	b.Blocks = make([]api.Block, 1+m.roll(7))
	for i := range b.Blocks {
		x := &b.Blocks[i]
		for range m.roll(6) {
			x.Ins = append(x.Ins, m.step())
		}
		which := m.roll(len(m.ends))
		x.End = cloned(m.ends[which])
		x.End.At = m.roll(1<<20)*100 + which
		for j := range x.End.To {
			x.End.To[j] = m.roll(len(b.Blocks))
		}
	}
	return b
}

func (m *maker) step() api.In {
	which := m.roll(len(m.steps))
	x := cloned(m.steps[which])
	x.At = m.roll(1<<20)*100 + which
	return x
}

// mended is a body of which all that is wrong is taken out, first of all what is wrong first.
func (m *maker) mended(b api.Body) api.Body {
	number := api.Use{Num: true, N: 1}
	for {
		block, step, wrong := modelOf(m.Source, b).wrong()
		if !wrong {
			return b
		}
		x := &b.Blocks[block]
		if step < len(x.Ins) {
			x.Ins = append(x.Ins[:step:step], x.Ins[step+1:]...)
			continue
		}
		at, to := x.End.At/100*100+plain, x.End.To
		switch len(to) {
		case 0:
			x.End = api.Tm{K: api.TmReturn, At: at, U: number}
		case 1:
			x.End = api.Tm{K: api.TmYield, At: at, U: number, To: to}
		default:
			x.End = api.Tm{K: api.TmIf, At: at, U: number, To: to[:2]}
		}
	}
}

// agrees fails, if what is told of a body is not what the model tells of it.
func agrees(t *testing.T, s api.Source, b api.Body) (wrong bool) {
	t.Helper()
	m := modelOf(s, b)
	is(t, "may", moves.May(s, b), states(m.states(m.may)))
	is(t, "must", moves.Must(s, b), states(m.states(m.must)))
	block, step, wrong := m.wrong()
	switch {
	case !wrong:
		checked(t, "nothing is wrong", s, b, api.OK, 0)
	case step < len(b.Blocks[block].Ins):
		checked(t, "a step is wrong", s, b, api.ErrMoved, b.Blocks[block].Ins[step].At)
	default:
		checked(t, "an end is wrong", s, b, api.ErrMoved, b.Blocks[block].End.At)
	}
	if t.Failed() {
		t.Fatal(mir.Text(b))
	}
	return wrong
}

// TestModel holds all that is told of many bodies against the model; of each once as it was made, once with all mended, and once with all but one mended.
func TestModel(t *testing.T) {
	d := dice(12)
	m := newMaker(t, &d)
	got := counts{}
	for range 3000 {
		b := m.body()
		was := cloned(b)
		agrees(t, m.Source, b)
		if !reflect.DeepEqual(b, was) {
			t.Fatalf("%s\nwas %s", mir.Text(b), mir.Text(was))
		}
		b = m.mended(b)
		if agrees(t, m.Source, b) {
			t.Fatalf("it is mended: %s", mir.Text(b))
		}
		got.body(t, m.Source, b)
		x := &b.Blocks[d.roll(len(b.Blocks))]
		x.Ins = slices.Insert(x.Ins, d.roll(len(x.Ins)+1), m.step())
		if agrees(t, m.Source, b) {
			got["one more is wrong"]++
		} else {
			got["one more is right"]++
		}
	}
	got.enough(t, 40)
}

// counts are how often something was looked at.
type counts map[string]int

// body counts what is in a body in which nothing is wrong.
func (c counts) body(t *testing.T, s api.Source, b api.Body) {
	t.Helper()
	m := modelOf(s, b)
	for i, x := range b.Blocks {
		if !m.reached(i) {
			c["not reached"]++
			continue
		}
		for j, in := range x.Ins {
			c["step "+itoa(int(in.K))]++
			if in.K == api.InSet {
				c["value "+itoa(int(in.V.K))]++
				c[map[bool]string{false: "whole", true: "part"}[len(in.S.Path) > 0]]++
			}
			for local := range b.Locals {
				if m.may(i, j, local) && !m.must(i, j, local) {
					c["on one way alone"]++
				}
			}
		}
		c["end "+itoa(int(x.End.K))]++
	}
}

func (c counts) enough(t *testing.T, least int) {
	t.Helper()
	words := strings.Split("not reached,whole,part,on one way alone,one more is wrong,one more is right", ",")
	for word, n := range map[string]int{"step ": int(api.InOpen), "value ": int(api.RvStart), "end ": int(api.TmWait)} {
		for k := range n + 1 {
			words = append(words, word+itoa(k))
		}
	}
	for _, word := range words {
		if c[word] < least {
			t.Errorf("%d times %s, too few to tell", c[word], word)
		}
	}
}

// TestHolds: on each way what is set lies between what must be, and what may; and, where nothing is wrong, nothing is used that is not set, and nothing is lost that drops.
func TestHolds(t *testing.T) {
	d := dice(21)
	m := newMaker(t, &d)
	for i := range 800 {
		b := m.body()
		right := i%4 > 0
		if right {
			b = m.mended(b)
			checked(t, "it is mended", m.Source, b, api.OK, 0)
		}
		w := way{t, b, moves.May(m.Source, b), moves.Must(m.Source, b), right, nil}
		for range 4 {
			w.walk(&d)
		}
	}
}

// way is a look at what is set on ways through a body.
type way struct {
	*testing.T
	api.Body
	may, must [][][]bool
	right     bool // whether nothing is wrong on it
	set       []bool
}

// walk goes on for some blocks.
func (w way) walk(d *dice) {
	w.Helper()
	w.set = make([]bool, count)
	for i := range w.Params {
		w.set[i] = true
	}
	block := 0
	for range 20 {
		x := w.Blocks[block]
		for step, in := range x.Ins {
			w.between(block, step)
			w.do(steps()[in.At%100], in.K == api.InSet)
		}
		w.between(block, len(x.Ins))
		if which := x.End.At % 100; which != plain {
			w.do(ends()[which], false)
		}
		w.between(block, len(x.Ins)+1)
		if len(x.End.To) == 0 {
			return
		}
		block = x.End.To[d.roll(len(x.End.To))]
	}
}

func (w way) between(block, step int) {
	w.Helper()
	for i, set := range w.set {
		if set && !w.may[block][step][i] || !set && w.must[block][step][i] {
			w.Fatalf("at %d of block %d local %d is set: %v\n%s", step, block, i, set, mir.Text(w.Body))
		}
	}
}

func (w way) do(x deed, overwrites bool) {
	w.Helper()
	for _, n := range x.needs {
		if w.right && !w.set[n] {
			w.Fatalf("%s: local %d is not set:\n%s", x.line, n, mir.Text(w.Body))
		}
	}
	for _, n := range x.takes {
		w.set[n] = false
	}
	for _, n := range x.set {
		if w.right && overwrites && drops(n) && w.set[n] {
			w.Fatalf("%s: local %d is lost:\n%s", x.line, n, mir.Text(w.Body))
		}
		w.set[n] = true
	}
}

// TestMemory: nothing that is handed in is changed, nor kept; an answer has memory of its own, and so have all its lists.
func TestMemory(t *testing.T) {
	d := dice(33)
	m := newMaker(t, &d)
	for range 200 {
		b := m.body()
		was, wasSource := cloned(b), cloned(m.Source)
		one, all := moves.May(m.Source, b), moves.Must(m.Source, b)
		moves.Check(m.Source, b)
		if !reflect.DeepEqual(b, was) || !reflect.DeepEqual(m.Source, wasSource) {
			t.Fatalf("%s\nwas %s", mir.Text(b), mir.Text(was))
		}
		if shared(m.Source, b, one, all) {
			t.Fatalf("memory is shared: %s", mir.Text(b))
		}
		may, must := states(one), states(all)
		for _, l := range [][][][]bool{one, all} {
			for _, block := range l {
				for _, state := range block {
					clear(state)
				}
			}
		}
		is(t, "may, again", moves.May(m.Source, b), may)
		is(t, "must, again", moves.Must(m.Source, b), must)
	}
}

// TestLong: bodies of many blocks, all whose locals are set anew in each, take no long time.
func TestLong(t *testing.T) {
	const long = 2000
	s := source(t, decls)
	d := api.Ty{K: api.TyStruct, Name: "D"}
	b := api.Body{Params: api.MaxLocals, Blocks: make([]api.Block, long)}
	for range api.MaxLocals {
		b.Locals = append(b.Locals, api.Local{Name: "d", Ty: d})
	}
	b.Locals = append(b.Locals, api.Local{Ty: api.Ty{K: api.TyInt}})
	for i := range b.Blocks {
		x := &b.Blocks[i]
		at := api.Spot{Local: i % api.MaxLocals}
		x.Ins = []api.In{
			{K: api.InDrop, S: at, U: api.Use{Move: true, S: at}},
			{K: api.InSet, At: i, S: at, V: api.Value{K: api.RvMake, Which: 1, Uses: []api.Use{{Num: true}}}},
		}
		x.End = api.Tm{K: api.TmIf, U: api.Use{Num: true}, To: []int{(i + 1) % long, (i + long/2) % long}}
	}
	checked(t, "all is set anew", s, b, api.OK, 0)
	last := &b.Blocks[long-1]
	last.Ins = last.Ins[1:]
	checked(t, "the last one is not dropped", s, b, api.ErrMoved, long-1)
	last.Ins = nil
	checked(t, "it is as it was", s, b, api.OK, 0)
	last.Ins = []api.In{{K: api.InDead, S: api.Spot{Local: 0}}}
	checked(t, "it is no more where all begins", s, b, api.ErrMoved, 0)
}
