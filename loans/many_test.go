package loans_test

import (
	"reflect"
	"slices"
	"strings"
	"testing"

	"cocoon/api"
	"cocoon/loans"
	"cocoon/mir"
)

// maker makes bodies of known's locals, of the steps and ends that are held against all.
type maker struct {
	*dice
	api.Source
	empty api.Body
	steps []api.In
	refs  []api.In // those that change what a reference holds
	ends  []api.Tm
}

func newMaker(t *testing.T, d *dice) *maker {
	t.Helper()
	m := &maker{dice: d, Source: source(t, decls), empty: body(t, "return #0")}
	for _, x := range steps() {
		in := body(t, x.line+"; return #0").Blocks[0].Ins[0]
		m.steps = append(m.steps, in)
		if x.local != none && in.K == api.InSet {
			m.refs = append(m.refs, in)
		}
	}
	for _, x := range ends() {
		b := body(t, x, "return #0", "return #0", "return #0", "return #0", "return #0", "return #0")
		m.ends = append(m.ends, b.Blocks[0].End)
	}
	m.empty.Blocks = nil
	return m
}

func (m *maker) body() api.Body {
	b := cloned(m.empty)
	b.Params = m.roll(count)
	b.Blocks = make([]api.Block, 1+m.roll(7))
	for i := range b.Blocks {
		x := &b.Blocks[i]
		for range m.roll(5) {
			x.Ins = append(x.Ins, m.step())
		}
		x.End = cloned(m.ends[m.roll(len(m.ends))])
		for j := range x.End.To {
			x.End.To[j] = m.roll(len(b.Blocks))
		}
	}
	return b
}

// step is one of all; two of three are of references.
func (m *maker) step() api.In {
	if m.roll(3) == 0 {
		return cloned(m.steps[m.roll(len(m.steps))])
	}
	return cloned(m.refs[m.roll(len(m.refs))])
}

// TestModel holds all that is told of many bodies against the model.
func TestModel(t *testing.T) {
	d := dice(14)
	m := newMaker(t, &d)
	got := counts{}
	for range 3000 {
		b := m.body()
		if !mir.Valid(m.Source, b) {
			t.Fatalf("%s may not be", mir.Text(b))
		}
		agrees(t, m.Source, b)
		got.body(m.Source, b)
	}
	got.enough(t, 300)
}

// agrees fails, if what is told of a body is not what the model tells of it.
func agrees(t *testing.T, s api.Source, b api.Body) {
	t.Helper()
	m := model{b}
	var l []loans.Loan
	for _, x := range m.loans() {
		l = append(l, loans.Loan{Block: x.block, Step: x.step, S: x.x.V.S, Mut: x.x.V.K == api.RvMut})
	}
	is(t, "loans", list(loans.Loans(b)), list(l))
	is(t, "held", states(t, b, loans.Held(s, b)), states(t, b, m.held()))
	if t.Failed() {
		t.Fatal(mir.Text(b))
	}
}

// counts are how often something was looked at.
type counts map[string]int

func (c counts) body(s api.Source, b api.Body) {
	l := loans.Held(s, b)
	for i, x := range b.Blocks {
		c["end "+itoa(int(x.End.K))]++
		for _, in := range x.Ins {
			c["step "+itoa(int(in.K))]++
		}
		if l[i] == nil {
			c["not reached"]++
		}
	}
	n := len(loans.Loans(b))
	for _, states := range l {
		for local := range b.Locals {
			if n == 0 || states == nil {
				continue
			}
			switch held := slices.DeleteFunc(slices.Clone(states[0][local*n:(local+1)*n]), func(is bool) bool { return !is }); len(held) {
			case 0:
				c["none"]++
			case 1:
				c["one"]++
			default:
				c["some"]++
			}
		}
	}
}

func (c counts) enough(t *testing.T, least int) {
	t.Helper()
	words := strings.Split("not reached,none,one,some", ",")
	for word, n := range map[string]int{"step ": int(api.InOpen), "end ": int(api.TmWait)} {
		for k := range n + 1 {
			words = append(words, word+itoa(k))
		}
	}
	for _, word := range words {
		if c[word] < least {
			t.Errorf("%d times %s, too few to tell", c[word], word)
		}
	}
}

// TestHoldsOnWays: what a reference is of, on any way, is among what it may hold: each loan by which it was made, and one of which that is a part.
func TestHoldsOnWays(t *testing.T) {
	d := dice(41)
	m := newMaker(t, &d)
	seen := 0
	for range 1500 {
		b := m.body()
		w := way{T: t, model: model{b}, all: loans.Loans(b), held: loans.Held(m.Source, b)}
		for range 4 {
			w.walk(&d)
			seen += w.seen
		}
	}
	if seen < 5000 {
		t.Errorf("%d references are of something, too few to tell", seen)
	}
}

// way is a look at ways through a body.
type way struct {
	*testing.T
	model
	all  []loans.Loan
	held [][][]bool
	is   map[int]aim // of references that are of something
	seen int
}

// aim is what a reference is of: a spot that is reached through no other one, and by which loans it came to it.
type aim struct {
	x  api.Spot
	by []int
}

// walk goes on for some blocks.
func (w *way) walk(d *dice) {
	w.Helper()
	w.is, w.seen = map[int]aim{}, 0
	block := 0
	for range 20 {
		x := w.Blocks[block]
		for step, in := range x.Ins {
			w.look(block, step)
			w.step(in, slices.IndexFunc(w.all, func(x loans.Loan) bool { return x.Block == block && x.Step == step }))
		}
		w.look(block, len(x.Ins))
		w.look(block, len(x.Ins)+1)
		if len(x.End.To) == 0 {
			return
		}
		block = x.End.To[d.roll(len(x.End.To))]
	}
}

// step goes over one, which makes a loan, or none.
func (w *way) step(x api.In, which int) {
	local := x.S.Local
	switch {
	case x.K == api.InLive || x.K == api.InDead:
		delete(w.is, local)
	case x.K == api.InOpen:
		delete(w.is, x.V.S.Local) // what stood in the enum is not known
	case x.K == api.InSet && which >= 0:
		w.lend(local, x.V.S, which)
	case x.K == api.InSet && w.refers(local) && len(x.S.Path) == 0:
		was, ok := w.is[x.V.Uses[0].S.Local]
		delete(w.is, local)
		if ok {
			w.is[local] = was
		}
	}
}

// lend lets a reference be of a spot; of what another one is of, if the spot is reached through that.
func (w *way) lend(local int, x api.Spot, which int) {
	if len(x.Path) == 0 || !w.refers(x.Local) {
		w.is[local] = aim{x, []int{which}}
		return
	}
	was, ok := w.is[x.Local]
	delete(w.is, local)
	if ok {
		into := api.Spot{Local: was.x.Local, Path: slices.Concat(was.x.Path, x.Path[1:])}
		w.is[local] = aim{into, append(slices.Clone(was.by), which)}
	}
}

// look looks at what is held.
func (w *way) look(block, step int) {
	w.Helper()
	for local, x := range w.is {
		w.seen++
		row := w.held[block][step][local*len(w.all):][:len(w.all)]
		for _, which := range x.by {
			if !row[which] {
				w.Fatalf("at %d of block %d local %d came by loan %d\n%s", step, block, local, which, mir.Text(w.Body))
			}
		}
		covers := func(which int) bool {
			l := w.all[which].S
			return row[which] && l.Local == x.x.Local && len(l.Path) <= len(x.x.Path) && loans.Overlap(l, x.x)
		}
		if !slices.ContainsFunc(x.by, covers) {
			w.Fatalf("at %d of block %d local %d is of %s\n%s", step, block, local, spotText(x.x), mir.Text(w.Body))
		}
	}
}

// TestMemory: nothing that is handed in is changed, nor kept; an answer has memory of its own, and so have all its lists, with the room behind them.
func TestMemory(t *testing.T) {
	d := dice(43)
	m := newMaker(t, &d)
	for range 300 {
		b := m.body()
		was, wasSource := cloned(b), cloned(m.Source)
		l, held := loans.Loans(b), loans.Held(m.Source, b)
		if !reflect.DeepEqual(b, was) || !reflect.DeepEqual(m.Source, wasSource) {
			t.Fatalf("%s\nwas %s", mir.Text(b), mir.Text(was))
		}
		if shared(m.Source, b, l, held) {
			t.Fatalf("memory is shared: %s", mir.Text(b))
		}
		for _, x := range l {
			clear(x.S.Path)
		}
		for _, states := range held {
			for _, state := range states {
				for i := range state {
					state[i] = !state[i]
				}
			}
		}
		agrees(t, m.Source, b)
	}
}

// TestPaths: what is told of loans stands apart from the paths of the body, with the room behind them; and nothing behind a spot's path is looked at.
func TestPaths(t *testing.T) {
	room := []int{1, 2, 3}
	b := api.Body{Blocks: []api.Block{{Ins: []api.In{
		{K: api.InSet, V: api.Value{K: api.RvRef, S: api.Spot{Path: room[:1]}}},
		{K: api.InSet, V: api.Value{K: api.RvRef, S: api.Spot{Path: room[:2]}}},
	}}}}
	l := loans.Loans(b)
	l[0].S.Path = append(l[0].S.Path, 8, 9)
	l[1].S.Path[0] = 7
	if !slices.Equal(room, []int{1, 2, 3}) || !slices.Equal(l[0].S.Path, []int{1, 8, 9}) || !slices.Equal(l[1].S.Path, []int{7, 2}) {
		t.Errorf("%v of %v", l, room)
	}
	if loans.Overlap(api.Spot{Path: room[:1]}, api.Spot{Path: room[1:2]}) {
		t.Error("parts that are not the same")
	}
}

// number is the type of one, ref of a reference to it.
func number() api.Ty { return api.Ty{K: api.TyInt} }

func ref() api.Ty { return api.Ty{K: api.TyRef, L: []api.Ty{number()}} }

// many is a body without steps, of so many blocks, one behind the other in a ring, and as many references as may be.
func many(blocks int) api.Body {
	b := api.Body{Blocks: make([]api.Block, blocks), Locals: []api.Local{{Name: "x", Ty: number()}}}
	for range api.MaxLocals - 1 {
		b.Locals = append(b.Locals, api.Local{Name: "r", Ty: ref()})
	}
	b.Locals = append(b.Locals, api.Local{Ty: number()})
	for i := range b.Blocks {
		b.Blocks[i].End = api.Tm{K: api.TmYield, U: api.Use{Num: true}, To: []int{(i + blocks - 1) % blocks}}
	}
	return b
}

// setTo is a step that sets a local.
func setTo(local int, v api.Value) api.In {
	return api.In{K: api.InSet, S: api.Spot{Local: local}, V: v}
}

func copyOf(local int) api.Value {
	return api.Value{Uses: []api.Use{{S: api.Spot{Local: local}}}}
}

// TestLongRing: a ring of many blocks, through which each loan has to go as often as there are locals, takes no long time.
func TestLongRing(t *testing.T) {
	const blocks, lent = 2000, 40
	b := many(blocks)
	for local := api.MaxLocals - 1; local > 1; local-- {
		b.Blocks[7].Ins = append(b.Blocks[7].Ins, setTo(local, copyOf(local-1)))
	}
	for range lent {
		b.Blocks[7].Ins = append(b.Blocks[7].Ins, setTo(1, api.Value{K: api.RvRef, S: api.Spot{Local: 1, Path: []int{-1}}}))
	}
	l := loans.Held(api.Source{}, b)
	for block, states := range l {
		for i, is := range states[0] {
			if local := i / lent; is != (0 < local && local < api.MaxLocals) {
				t.Fatalf("ahead of block %d local %d holds %d: %v", block, local, i%lent, is)
			}
		}
	}
}

// TestLongRow: one block of many steps, each of which makes a loan of the one ahead, takes no long time.
func TestLongRow(t *testing.T) {
	const long = 1000
	b := many(1)
	b.Locals = slices.Delete(b.Locals, 3, api.MaxLocals)
	for i := range long {
		b.Blocks[0].Ins = append(b.Blocks[0].Ins, setTo(1+i%2, api.Value{K: api.RvRef, S: api.Spot{Local: 2 - i%2, Path: []int{-1}}}))
	}
	b.Blocks[0].End = api.Tm{K: api.TmReturn, U: api.Use{Num: true}}
	l := loans.Held(api.Source{}, b)[0]
	for step := range long {
		for loan := range long {
			if got := l[step+1][(1+step%2)*long+loan]; got != (loan <= step) {
				t.Fatalf("behind step %d loan %d is held: %v", step, loan, got)
			}
		}
	}
}

// TestManyBlocks: many blocks in which each local is handed on to the next one take no long time.
func TestManyBlocks(t *testing.T) {
	const blocks = 8000
	b := many(blocks)
	for i := range b.Blocks {
		to := 2 + i%(api.MaxLocals-2)
		b.Blocks[i].Ins = []api.In{setTo(to, copyOf(to-1))}
	}
	b.Blocks[0].Ins = []api.In{setTo(1, api.Value{K: api.RvRef})}
	l := loans.Held(api.Source{}, b)
	for local := 1; local < api.MaxLocals; local++ {
		if !l[0][0][local] {
			t.Errorf("local %d does not hold the loan", local)
		}
	}
}
