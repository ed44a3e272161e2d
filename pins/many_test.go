package pins_test

import (
	"reflect"
	"slices"
	"strings"
	"testing"

	"cocoon/api"
	"cocoon/mir"
	"cocoon/pins"
)

// maker makes bodies of known's locals, of the steps and ends that are held against what may be polled.
type maker struct {
	*dice
	api.Source
	all   []api.Body
	empty api.Body
	steps []api.In
	moves []api.In // those of the steps that move coroutines
	ends  []api.Tm
	polls []api.Tm
}

func newMaker(t *testing.T, d *dice) *maker {
	t.Helper()
	s := source(t, decls)
	m := &maker{dice: d, Source: s, all: built(t, s), empty: body(t, "return #0")}
	for _, x := range steps() {
		m.steps = append(m.steps, step(t, x.line))
		if slices.ContainsFunc(x.moves, func(local int) bool { return slices.Contains(coroutines[:], local) }) {
			m.moves = append(m.moves, step(t, x.line))
		}
	}
	for _, x := range ends() {
		m.ends = append(m.ends, end(t, x.line))
		if x.polls != nil {
			m.polls = append(m.polls, end(t, x.line))
		}
	}
	m.empty.Blocks = nil
	return m
}

// pick is one of a list.
func pick[T any](d *dice, l []T) T { return cloned(l[d.roll(len(l))]) }

func (m *maker) body() api.Body {
	b := cloned(m.empty)
	b.Params = m.roll(len(b.Locals))
	b.Blocks = make([]api.Block, 1+m.roll(7))
	for i := range b.Blocks {
		x := &b.Blocks[i]
		for range m.roll(5) {
			x.Ins = append(x.Ins, m.step())
		}
		x.End = pick(m.dice, m.ends)
		if m.roll(3) == 0 {
			x.End = pick(m.dice, m.polls)
		}
		for j := range x.End.To {
			x.End.To[j] = m.roll(len(b.Blocks))
		}
	}
	return placed(b)
}

func (m *maker) step() api.In {
	if m.roll(3) == 0 {
		return pick(m.dice, m.moves)
	}
	return pick(m.dice, m.steps)
}

// bodies are those of all coroutines, or some of them, or such as may not be.
func (m *maker) bodies() []api.Body {
	l := cloned(m.all)
	switch m.roll(6) {
	case 0:
		l = l[:m.roll(len(l))]
	case 1:
		l[m.roll(len(l))] = api.Body{}
	case 2:
		spoil(m.dice, &l)
	}
	return cloned(l)
}

// spoil changes something in a thing.
func spoil(d *dice, x any) {
	var l []reflect.Value
	var gather func(v reflect.Value)
	gather = func(v reflect.Value) {
		switch v.Kind() {
		case reflect.Struct:
			for i := range v.NumField() {
				gather(v.Field(i))
			}
			return
		case reflect.Slice:
			for i := range v.Len() {
				gather(v.Index(i))
			}
		}
		l = append(l, v)
	}
	gather(reflect.ValueOf(x).Elem())
	switch v := l[d.roll(len(l))]; v.Kind() {
	case reflect.Bool:
		v.SetBool(!v.Bool())
	case reflect.Int:
		v.SetInt([...]int64{-1, 0, 1, 2, 3, 4, 5, 6, 7, 12, 13, 16, 17, 1 << 40, 1<<63 - 1, -1 << 63}[d.roll(16)])
	case reflect.String:
		v.SetString([...]string{"", "s", "g", "h", "P", "E", "z"}[d.roll(7)])
	case reflect.Slice:
		if n := v.Len(); n > 0 && d.roll(2) == 0 {
			v.Set(v.Slice(0, n-1))
		} else if n > 0 {
			v.Set(reflect.Append(v, v.Index(d.roll(n))))
		}
	}
}

// agrees fails, if what is told of a body that may be is not what the model tells of it; it tells the step that moves what is pinned.
func agrees(t *testing.T, s api.Source, all []api.Body, b api.Body) (block, step int, pinned bool) {
	t.Helper()
	m := modelOf(b)
	is(t, "polled", polled(t, b, pins.Polled(s, b)), polled(t, b, m.states()))
	if block, step, pinned = m.first(pinnedBy(s, all)); pinned {
		checked(t, "check", s, all, b, api.ErrPin, b.Blocks[block].Ins[step].At)
	} else {
		checked(t, "check", s, all, b, api.OK, 0)
	}
	if t.Failed() {
		t.Fatal(mir.Text(b))
	}
	return block, step, pinned
}

// TestModel holds all that is told of many bodies against the model: as they are made, and mended step by step, till nothing that is pinned is moved.
func TestModel(t *testing.T) {
	d := dice(16)
	m := newMaker(t, &d)
	got := counts{}
	for range 3000 {
		b, all := m.body(), m.bodies()
		if !mir.Valid(m.Source, b) {
			t.Fatalf("%s may not be", mir.Text(b))
		}
		for {
			block, step, pinned := agrees(t, m.Source, all, b)
			if !pinned {
				break
			}
			got["pinned "+itoa(int(b.Blocks[block].Ins[step].V.K))]++
			b.Blocks[block].Ins[step] = api.In{K: api.InPrint, At: b.Blocks[block].Ins[step].At, U: api.Use{Num: true}}
		}
		got.right(b)
	}
	got.enough(t)
}

// counts are how often something was looked at.
type counts map[string]int

// right counts what stands where something may be polled, in a body in which nothing that is pinned is moved.
func (c counts) right(b api.Body) {
	m := modelOf(b)
	for block, states := range m.states() {
		if states == nil {
			c["not reached"]++
			continue
		}
		x := b.Blocks[block]
		for step, flags := range states[:len(x.Ins)+1] {
			if !slices.Contains(flags, true) {
				continue
			}
			if step == len(x.Ins) {
				c["end "+itoa(int(x.End.K))]++
				continue
			}
			in := x.Ins[step]
			c["step "+itoa(int(in.K))]++
			if in.K == api.InSet {
				c["value "+itoa(int(in.V.K))]++
			}
			if in.K == api.InSet && m.moves(block, step, func(api.Ty) bool { return true }) {
				c["moved"]++
			}
		}
	}
}

func (c counts) enough(t *testing.T) {
	t.Helper()
	words := strings.Split("not reached,moved,pinned 0,pinned 8,pinned 10,pinned 11,pinned 12", ",")
	for word, n := range map[string]int{"step ": int(api.InOpen), "value ": int(api.RvStart), "end ": int(api.TmWait)} {
		for k := range n + 1 {
			if word != "value " || !slices.Contains([]int{2, 3, 4}, k) { // they stand in no line
				words = append(words, word+itoa(k))
			}
		}
	}
	for _, word := range words {
		if c[word] < 40 {
			t.Errorf("%d times %s, too few to tell", c[word], word)
		}
	}
}

// TestSpoilt: of bodies, and of sources, in which something was changed, too, each call tells what the model tells, or that it may not be.
func TestSpoilt(t *testing.T) {
	d := dice(61)
	m := newMaker(t, &d)
	right, wrong := 0, 0
	for i := range 6000 {
		s, b, all := cloned(m.Source), m.body(), m.bodies()
		if i%3 == 0 {
			spoil(&d, &s)
		}
		for range d.roll(3) {
			spoil(&d, &b)
		}
		if mir.Valid(s, b) {
			right++
			agrees(t, s, all, b)
			if pins.Unpin(s, b) != unpin(s, b) {
				t.Fatalf("it may be moved, or not: %s", mir.Text(b))
			}
			continue
		}
		wrong++
		isRefused(t, "spoilt", s, all, b)
	}
	if right < 1000 || wrong < 1000 {
		t.Errorf("%d right, %d wrong, too few to tell", right, wrong)
	}
}

// TestMemory: nothing that is handed in is changed, nor kept; an answer has memory of its own, and so have all its lists.
func TestMemory(t *testing.T) {
	d := dice(36)
	m := newMaker(t, &d)
	for range 300 {
		b, all := m.body(), m.bodies()
		wasB, wasAll, wasSource := cloned(b), cloned(all), cloned(m.Source)
		pins.Check(m.Source, all, b)
		pins.Unpin(m.Source, b)
		l := pins.Polled(m.Source, b)
		if !reflect.DeepEqual(b, wasB) || !reflect.DeepEqual(all, wasAll) || !reflect.DeepEqual(m.Source, wasSource) {
			t.Fatalf("%s\nwas %s", mir.Text(b), mir.Text(wasB))
		}
		if shared(m.Source, all, b, l) {
			t.Fatalf("memory is shared: %s", mir.Text(b))
		}
		was := polled(t, b, l)
		for _, block := range l {
			for _, flags := range block {
				for i := range flags {
					flags[i] = !flags[i]
				}
			}
		}
		is(t, "polled, again", polled(t, b, pins.Polled(m.Source, b)), was)
		agrees(t, m.Source, all, b)
	}
}
