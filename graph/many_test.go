package graph_test

import (
	"reflect"
	"slices"
	"testing"

	"cocoon/api"
	"cocoon/graph"
)

// made is what is asked of a body.
type made struct {
	body  api.Body
	n     int
	start []bool
	l     []graph.Change
}

// place is one of so many, or, seldom, none of them.
func (d *dice) place(n int) int {
	if d.roll(8) == 0 {
		return []int{-1, n, n + 1, -1 << 63, 1<<63 - 1}[d.roll(5)]
	}
	return d.roll(max(n, 1))
}

func (d *dice) made() made {
	m := made{n: d.roll(5)}
	for range 1 + d.roll(7) {
		m.body.Blocks = append(m.body.Blocks, api.Block{Ins: make([]api.In, d.roll(3))})
	}
	for i := range m.body.Blocks {
		for range d.roll(4) {
			to := &m.body.Blocks[i].End.To
			*to = append(*to, d.place(len(m.body.Blocks)))
		}
	}
	for range d.roll(m.n + 2) {
		m.start = append(m.start, d.roll(2) == 0)
	}
	for range d.roll(6) {
		m.l = append(m.l, d.change(m))
	}
	return m
}

func (d *dice) change(m made) graph.Change {
	x := graph.Change{Block: d.place(len(m.body.Blocks))}
	if 0 <= x.Block && x.Block < len(m.body.Blocks) {
		x.Step = d.place(len(m.body.Blocks[x.Block].Ins) + 1)
	}
	for range d.roll(3) {
		x.Gen = append(x.Gen, d.place(m.n))
	}
	for range d.roll(3) {
		x.Kill = append(x.Kill, d.place(m.n))
	}
	return x
}

// behind is a flag behind a step, as it is ahead of it.
func (m made) behind(block, step, flag int, ahead bool) bool {
	for _, x := range m.l {
		if x.Block == block && x.Step == step && slices.Contains(x.Kill, flag) {
			ahead = false
		}
	}
	for _, x := range m.l {
		if x.Block == block && x.Step == step && slices.Contains(x.Gen, flag) {
			ahead = true
		}
	}
	return ahead
}

func (m made) goes(from, to int) bool { return slices.Contains(m.body.Blocks[from].End.To, to) }

// reached goes on in rounds.
func (m made) reached() []bool {
	l := make([]bool, len(m.body.Blocks))
	l[0] = true
	for range l {
		for from := range l {
			for to := range l {
				l[to] = l[to] || l[from] && m.goes(from, to)
			}
		}
	}
	return l
}

// states are such that all flags are the same, of the blocks that are asked about.
func (m made) states(asked []bool, flag bool) [][][]bool {
	var l [][][]bool
	for i, x := range m.body.Blocks {
		l = append(l, nil)
		for step := 0; asked[i] && step < len(x.Ins)+2; step++ {
			l[i] = append(l[i], slices.Repeat([]bool{flag}, m.n))
		}
	}
	return l
}

// round is what the rule tells of each flag, where others are as they are.
func (m made) round(was [][][]bool, rule func(was [][][]bool, block, step, flag int) bool) [][][]bool {
	var l [][][]bool
	for i, block := range was {
		l = append(l, nil)
		for j, state := range block {
			l[i] = append(l[i], nil)
			for flag := range state {
				l[i][j] = append(l[i][j], rule(was, i, j, flag))
			}
		}
	}
	return l
}

// flow is the rule of graph.Flow.
func (m made) flow(every bool) func(was [][][]bool, block, step, flag int) bool {
	return func(was [][][]bool, block, step, flag int) bool {
		if step > 0 {
			return m.behind(block, step-1, flag, was[block][step-1][flag])
		}
		started := flag < len(m.start) && m.start[flag]
		some, all := block == 0 && started, block != 0 || started
		for from, states := range was {
			if states != nil && m.goes(from, block) {
				x := states[len(states)-1][flag]
				some, all = some || x, all && x
			}
		}
		return every && all || !every && some
	}
}

// back is the rule of graph.Back.
func (m made) back(was [][][]bool, block, step, flag int) bool {
	if step < len(was[block])-1 {
		return m.behind(block, step, flag, was[block][step+1][flag])
	}
	for to, states := range was {
		if m.goes(block, to) && states[0][flag] {
			return true
		}
	}
	return false
}

// settled goes round until a rule holds.
func (m made) settled(asked []bool, first bool, rule func(was [][][]bool, block, step, flag int) bool) [][][]bool {
	l := m.states(asked, first)
	for {
		next := m.round(l, rule)
		if told(next) == told(l) {
			return l
		}
		l = next
	}
}

// TestModel holds all answers of many bodies against those that are found in rounds, from nothing or from all on, and against the rules themselves.
func TestModel(t *testing.T) {
	d := dice(11)
	count := map[string]int{}
	for range 6000 {
		m := d.made()
		was := told([][][]bool{{m.start}})
		reached := m.reached()
		if got := graph.Reach(m.body); !slices.Equal(got, reached) {
			t.Fatalf("reached of %v: %v", m, got)
		}
		one := graph.Flow(m.body, m.n, m.start, m.l, false)
		all := graph.Flow(m.body, m.n, m.start, m.l, true)
		back := graph.Back(m.body, m.n, m.l)
		is(t, "one way", one, told(m.settled(reached, false, m.flow(false))))
		is(t, "all ways", all, told(m.settled(reached, true, m.flow(true))))
		every := slices.Repeat([]bool{true}, len(m.body.Blocks))
		is(t, "back", back, told(m.settled(every, false, m.back)))
		is(t, "the rule, on one way", m.round(one, m.flow(false)), told(one))
		is(t, "the rule, on all ways", m.round(all, m.flow(true)), told(all))
		is(t, "the rule, back", m.round(back, m.back), told(back))
		if t.Failed() || told([][][]bool{{m.start}}) != was {
			t.Fatal(m)
		}
		m.isWalked(t, &d, one, all)
		m.count(count, reached, one, all, back)
	}
	for _, x := range []string{"not reached", "a ring", "one way, not all", "all ways", "none", "back", "kept"} {
		if count[x] < 200 {
			t.Errorf("%s: %d only", x, count[x])
		}
	}
}

func (m made) count(count map[string]int, reached []bool, one, all, back [][][]bool) {
	for i := range m.body.Blocks {
		if !reached[i] {
			count["not reached"]++
			continue
		}
		if m.goes(i, 0) {
			count["a ring"]++
		}
		for flag := range m.n {
			switch a, b := one[i][0][flag], all[i][0][flag]; {
			case a && !b:
				count["one way, not all"]++
			case a:
				count["all ways"]++
			default:
				count["none"]++
			}
			if end := back[i][len(back[i])-1][flag]; end {
				count["back"]++
				if !back[i][0][flag] {
					count["kept"]++
				}
			}
		}
	}
}

// isWalked walks a way: what holds there lies between what holds on all ways and what holds on one.
func (m made) isWalked(t *testing.T, d *dice, one, all [][][]bool) {
	t.Helper()
	state := make([]bool, m.n)
	copy(state, m.start)
	block := 0
	for range 12 {
		for step := range one[block] {
			for flag, x := range state {
				if x && !one[block][step][flag] || !x && all[block][step][flag] {
					t.Fatalf("flag %d is %v at %d of block %d of %v", flag, x, step, block, m)
				}
				if step < len(one[block])-1 {
					state[flag] = m.behind(block, step, flag, x)
				}
			}
		}
		var to []int
		for i := range m.body.Blocks {
			if m.goes(block, i) {
				to = append(to, i)
			}
		}
		if len(to) == 0 {
			return
		}
		block = to[d.roll(len(to))]
	}
}

// TestMore: more that starts, more that is made, gives no less.
func TestMore(t *testing.T) {
	d := dice(12)
	for range 3000 {
		m := d.made()
		more := m
		more.start = append(slices.Clone(m.start), true, true)
		for i := range more.start {
			more.start[i] = more.start[i] || d.roll(3) == 0
		}
		made := d.change(m)
		made.Kill = nil
		more.l = append(slices.Clone(m.l), made)
		for _, every := range []bool{false, true} {
			isNoLess(t, graph.Flow(m.body, m.n, m.start, m.l, every), graph.Flow(m.body, m.n, more.start, more.l, every))
		}
		isNoLess(t, graph.Back(m.body, m.n, m.l), graph.Back(m.body, m.n, more.l))
	}
}

func isNoLess(t *testing.T, l, more [][][]bool) {
	t.Helper()
	for i, block := range l {
		for j, state := range block {
			for flag, x := range state {
				if x && !more[i][j][flag] {
					t.Fatalf("%s is less than %s", told(more), told(l))
				}
			}
		}
	}
}

// TestMemory: nothing that is handed in is changed; an answer has memory of its own, and so have all its lists.
func TestMemory(t *testing.T) {
	d := dice(13)
	for range 500 {
		m, was := d.made(), made{}
		was.body.Blocks = slices.Clone(m.body.Blocks)
		for i, x := range m.body.Blocks {
			was.body.Blocks[i].End.To = slices.Clone(x.End.To)
		}
		was.n, was.start = m.n, slices.Clone(m.start)
		for _, x := range m.l {
			was.l = append(was.l, graph.Change{Block: x.Block, Step: x.Step, Gen: slices.Clone(x.Gen), Kill: slices.Clone(x.Kill)})
		}
		one, all := graph.Flow(m.body, m.n, m.start, m.l, false), graph.Flow(m.body, m.n, m.start, m.l, true)
		back, preds, reached := graph.Back(m.body, m.n, m.l), graph.Preds(m.body), graph.Reach(m.body)
		if !reflect.DeepEqual(m, was) {
			t.Fatalf("%v is changed: %v", was, m)
		}
		for _, x := range m.l {
			if shared(m.body, m.start, x.Gen, x.Kill, one, all, back, preds, reached) {
				t.Fatalf("%v shares memory", m)
			}
		}
	}
}

// TestLong: bodies of many blocks, whose flags go through all of them, take no long time.
func TestLong(t *testing.T) {
	const long, n = 3000, 300
	for _, up := range []bool{true, false} {
		b := api.Body{Blocks: make([]api.Block, long)}
		var l []graph.Change
		for i := range b.Blocks {
			to := i + 1
			if !up {
				to = (i - 1 + long) % long
			}
			b.Blocks[i].End.To = []int{to, 0, to}
			l = append(l, graph.Change{Block: i, Gen: []int{i % n}, Kill: []int{(i + n/2) % n}})
		}
		for i, x := range graph.Reach(b) {
			if !x {
				t.Errorf("%d is not reached", i)
			}
		}
		one, all, back := graph.Flow(b, n, nil, l, false), graph.Flow(b, n, nil, l, true), graph.Back(b, n, l)
		for i := range b.Blocks {
			if !one[i][1][i%n] || !all[i][1][i%n] || !back[i][0][i%n] {
				t.Fatalf("%d is not made", i)
			}
		}
		if slices.Contains(one[0][0], false) || slices.Contains(all[0][0], true) {
			t.Error("what comes from far is not told")
		}
	}
}
