package borrows_test

import (
	"reflect"
	"slices"
	"strings"
	"testing"

	"cocoon/api"
	"cocoon/borrows"
	"cocoon/mir"
)

// more are lines beside those that are held against loans: much use of what they lend.
func more() []string {
	return []string{
		"set 5.-1 = 0 0 0 copy 6.-1", "set 6.-1 = 1 0 0 copy 6.-1 #1", "set 8.-1.0 = 0 0 0 copy 3.-1", "set 5.-1 = 0 0 0 copy 8.-1.1",
		"set 3 = 6 0 0 1", "set 4 = 6 0 0 0", "set 4 = 6 0 0 2.0", "set 4 = 6 0 0 3.-1", "set 4 = 0 0 0 copy 3", "set 3 = 6 0 0 7.-1.0", "set 7 = 6 0 0 7.-1", "set 3 = 6 0 0 13.0",
		"set 5 = 7 0 0 1", "set 5 = 7 0 0 6.-1", "set 6 = 7 0 0 5.-1", "set 6 = 7 0 0 2.1", "set 5 = 7 0 0 8.-1.1", "set 8 = 7 0 0 8.-1", "set 6 = 7 0 0 13.0",
		"set 17 = 0 0 0 copy 3", "set 18 = 0 0 0 move 6", "set 18 = 7 0 0 5.-1", "set 17 = 6 0 0 18.-1", "set 21 = 6 0 0 9", "set 22 = 7 0 0 9", "set 25 = 6 0 0 11", "set 26 = 7 0 0 11", "set 30 = 7 0 0 13", "set 31 = 6 0 0 14",
		"print copy 4.-1", "print copy 6.-1", "print copy 17.-1", "print copy 18.-1", "end 18", "end 21", "end 22", "end 25", "end 26", "end 30", "end 31", "end 7",
	}
}

// maker makes bodies of known's locals, of the steps and ends that are held against loans, and of some more.
type maker struct {
	*dice
	api.Source
	empty api.Body
	steps []api.In
	ends  []api.Tm
	loans [][]theme // by the type of what they are of
}

// theme is a step that makes a loan, one that uses it, and steps and ends that it may bar.
type theme struct {
	made, used api.In
	steps      []api.In
	ends       []api.Tm
}

func newMaker(t *testing.T, d *dice) *maker {
	t.Helper()
	m := &maker{dice: d, Source: source(t, decls), empty: body(t, "return #0"), loans: make([][]theme, (count-holders)/2)}
	for _, x := range lines() {
		m.steps = append(m.steps, step(t, x.text))
	}
	for _, x := range ends() {
		m.ends = append(m.ends, end(t, x.text))
	}
	for _, x := range pairs() {
		kind := (x.holder - holders) / 2
		m.loans[kind] = append(m.loans[kind], m.theme(t, x))
	}
	for _, x := range more() {
		m.steps = append(m.steps, step(t, x))
	}
	return m
}

// theme is about a loan.
func (m *maker) theme(t *testing.T, p pair) theme {
	t.Helper()
	x := theme{made: step(t, p.text), used: api.In{K: api.InDrop, S: api.Spot{Local: p.holder}}}
	for i, l := range lines() {
		if p.bars(l.deeds) {
			x.steps = append(x.steps, m.steps[i])
		}
	}
	for i, l := range ends() {
		if p.bars(l.deeds) {
			x.ends = append(x.ends, m.ends[i])
		}
	}
	return x
}

// pick is one of a list; of an empty one, of another list.
func pick[T any](d *dice, l, other []T) T {
	if len(l) == 0 {
		l = other
	}
	return l[d.roll(len(l))]
}

// body is about three loans.
func (m *maker) body() api.Body {
	b := m.empty
	b.Params = m.roll(count)
	b.Blocks = make([]api.Block, 1+m.roll(6))
	var themes [3]theme
	for i := range themes {
		themes[i] = pick(m.dice, pick(m.dice, m.loans, nil), nil)
	}
	for i := range b.Blocks {
		x := &b.Blocks[i]
		for range m.roll(8) {
			x.Ins = append(x.Ins, m.step(themes[m.roll(len(themes))]))
		}
		x.End = pick(m.dice, m.ends, nil)
		if m.roll(2) == 0 {
			x.End = pick(m.dice, themes[m.roll(len(themes))].ends, m.ends)
		}
		x.End.To = slices.Clone(x.End.To)
		for j := range x.End.To {
			x.End.To[j] = m.roll(len(b.Blocks))
		}
	}
	return placed(cloned(b))
}

// step is one of all, or one of a theme.
func (m *maker) step(x theme) api.In {
	switch m.roll(8) {
	case 0, 1:
		return x.made
	case 2, 3:
		return x.used
	case 4, 5:
		return pick(m.dice, x.steps, m.steps)
	}
	return pick(m.dice, m.steps, nil)
}

// mended makes a step, or an end, one that does nothing.
func mended(b api.Body, block, step int) {
	x := &b.Blocks[block]
	if step < len(x.Ins) {
		x.Ins[step] = api.In{K: api.InPrint, At: x.Ins[step].At, U: api.Use{Num: true}}
		return
	}
	x.End = api.Tm{K: api.TmReturn, At: x.End.At, U: api.Use{Num: true}}
}

// counts are how often something was looked at.
type counts map[string]int

// TestModel holds all that is told of many bodies against the model: as they are made, and mended step by step, till nothing is barred.
func TestModel(t *testing.T) {
	d := dice(15)
	m := newMaker(t, &d)
	got := counts{}
	for range 2500 {
		b := m.body()
		if !mir.Valid(m.Source, b) {
			t.Fatalf("%s may not be", mir.Text(b))
		}
		for agrees(t, m.Source, b) {
			block, step, _ := modelOf(b).first()
			got.place(b, block, step, "barred ")
			mended(b, block, step)
		}
		got.right(b)
	}
	got.enough(t)
}

// agrees fails, if what is told of a body is not what the model tells of it; it tells whether something is barred.
func agrees(t *testing.T, s api.Source, b api.Body) bool {
	t.Helper()
	m := modelOf(b)
	block, step, barred := m.first()
	if barred {
		checked(t, "check", s, b, api.ErrBorrow, where(b, block, step))
	} else {
		checked(t, "check", s, b, api.OK, 0)
		is(t, "active", active(b, asked(s, b)), active(b, m.asked))
	}
	is(t, "lent", lent(t, b, borrows.Lent(s, b)), lent(t, b, m.lent()))
	if t.Failed() {
		t.Fatal(mir.Text(b))
	}
	return barred
}

// place counts what stands at a place.
func (c counts) place(b api.Body, block, step int, word string) {
	x := b.Blocks[block]
	if step == len(x.Ins) {
		c[word+"end "+itoa(int(x.End.K))]++
		return
	}
	in := x.Ins[step]
	c[word+"step "+itoa(int(in.K))]++
	if in.K == api.InSet {
		c[word+"value "+itoa(int(in.V.K))]++
	}
}

// right counts what is in a body in which nothing is barred.
func (c counts) right(b api.Body) {
	m := modelOf(b)
	for block, x := range b.Blocks {
		if !m.reached[block] {
			c["not reached"]++
			continue
		}
		for step := range len(x.Ins) + 1 {
			if l := m.active(block, step); len(l) > 0 {
				c.place(b, block, step, "beside ")
				c["active "+itoa(min(len(l), 3))]++
			}
		}
	}
	for _, flags := range m.lent() {
		if slices.Contains(flags, true) {
			c["lent"]++
		}
	}
}

func (c counts) enough(t *testing.T) {
	t.Helper()
	words := strings.Split("not reached,active 1,active 2,active 3,lent,barred step 1,barred step 2,barred step 3,barred step 4,barred step 5", ",")
	for word, n := range map[string]int{"step ": int(api.InOpen), "value ": int(api.RvStart), "end ": int(api.TmWait)} {
		for k := range n + 1 {
			if word+itoa(k) != "end 3" { // nothing is used behind a return
				words = append(words, "beside "+word+itoa(k))
			}
		}
	}
	for _, k := range []api.RvKind{api.RvUse, api.RvAdd, api.RvRef, api.RvMut, api.RvUnbox, api.RvMake, api.RvVariant, api.RvStart} {
		words = append(words, "barred value "+itoa(int(k)))
	}
	for _, k := range []api.TmKind{api.TmIf, api.TmMatch, api.TmYield, api.TmAwait, api.TmPoll, api.TmWait} {
		words = append(words, "barred end "+itoa(int(k)))
	}
	for _, word := range words {
		if c[word] < 5 {
			t.Errorf("%d times %s, too few to tell", c[word], word)
		}
	}
}

// TestMemory: nothing that is handed in is changed, nor kept; an answer has memory of its own, and so have all its lists, with the room behind them.
func TestMemory(t *testing.T) {
	d := dice(51)
	m := newMaker(t, &d)
	for range 200 {
		b := m.body()
		was, wasSource := cloned(b), cloned(m.Source)
		borrows.Check(m.Source, b)
		l := borrows.Lent(m.Source, b)
		first, again := borrows.Active(m.Source, b, 0, 1), borrows.Active(m.Source, b, 0, 1)
		if !reflect.DeepEqual(b, was) || !reflect.DeepEqual(m.Source, wasSource) {
			t.Fatalf("%s\nwas %s", mir.Text(b), mir.Text(was))
		}
		if shared(m.Source, b, l, first, again) {
			t.Fatalf("memory is shared: %s", mir.Text(b))
		}
		for _, flags := range l {
			for i := range flags {
				flags[i] = !flags[i]
			}
		}
		clear(first)
		is(t, "active, again", numbers(borrows.Active(m.Source, b, 0, 1)), numbers(again))
		is(t, "lent, again", lent(t, b, borrows.Lent(m.Source, b)), lent(t, b, modelOf(b).lent()))
	}
}
