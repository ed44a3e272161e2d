package pins_test

import (
	"testing"

	"cocoon/api"
	"cocoon/bodies"
	"cocoon/mir"
	"cocoon/pins"
)

// lines are steps of lender's locals: references are made, handed on, used, and end.
func lines() []string {
	return []string{
		"live 3", "dead 3", "dead 5", "end 3", "end 5", "drop 4", "drop 7",
		"set 3 = 6 0 0 0", "set 3 = 6 0 0 1", "set 3 = 6 0 0 2.0", "set 3 = 6 0 0 4.-1", "set 4 = 6 0 0 5.-1", "set 3 = 6 0 0 7.-1.0", "set 3 = 6 0 0 10.-1.1", "set 4 = 6 0 0 12.0",
		"set 4 = 0 0 0 copy 3", "set 3 = 0 0 0 copy 4", "set 5 = 0 0 0 move 6", "set 6 = 0 0 0 move 5", "set 7 = 0 0 0 copy 7",
		"set 5 = 7 0 0 0", "set 5 = 7 0 0 6.-1", "set 6 = 7 0 0 5.-1", "set 6 = 7 0 0 2.1", "set 5 = 7 0 0 8.-1.0", "set 8 = 7 0 0 2", "set 8 = 7 0 0 8.-1",
		"set 7 = 6 0 0 2", "set 7 = 6 0 0 10.-1", "set 7 = 6 0 0 8.-1",
		"set 5.-1 = 0 0 0 #1", "set 8.-1.1 = 0 0 0 copy 3.-1", "set 0 = 1 0 0 copy 3.-1 copy 4.-1", "set 0 = 0 0 0 #1", "set 2 = 0 0 0 move 2",
		"print copy 3.-1", "print copy 6.-1", "print copy 7.-1.1", "print copy 0", "print #1",
	}
}

// finals are ends of lender's locals, more of such as suspend.
func finals() []string {
	return []string{
		"yield #1 1", "yield #1 1", "yield copy 3.-1 1", "wait 1 #1 1", "wait 5.-1 copy 4.-1 1", "await 0 11 1", "await 8.-1.0 11 1",
		"poll 0 11 1", "goto 1", "if #1 1 2", "match 9 1 2 3", "return copy 3.-1", "return #0",
	}
}

// lent makes bodies of lender's locals.
type lent struct {
	*dice
	api.Source
	steps []api.In
	ends  []api.Tm
}

func newLent(t *testing.T, d *dice) *lent {
	t.Helper()
	m := &lent{dice: d, Source: source(t, decls)}
	for _, x := range lines() {
		m.steps = append(m.steps, m.read(t, x+"; return #0").Blocks[0].Ins[0])
	}
	for _, x := range finals() {
		m.ends = append(m.ends, m.read(t, x, "return #0", "return #0", "return #0").Blocks[0].End)
	}
	return m
}

func (m *lent) read(t *testing.T, blocks ...string) api.Body {
	t.Helper()
	return read(t, m.Source, lender+told(blocks...))
}

func (m *lent) body() api.Body {
	b, _ := bodies.Read(m.Source, lender)
	b.Params = m.roll(len(b.Locals))
	b.Blocks = make([]api.Block, 1+m.roll(5))
	for i := range b.Blocks {
		x := &b.Blocks[i]
		for range m.roll(5) {
			x.Ins = append(x.Ins, pick(m.dice, m.steps))
		}
		x.End = pick(m.dice, m.ends)
		for j := range x.End.To {
			x.End.To[j] = m.roll(len(b.Blocks))
		}
	}
	return b
}

// TestUnpinHolds: what may be moved uses on no way, behind a suspension, what was then the address of something of its own; and it is told by what is lent, alone.
func TestUnpinHolds(t *testing.T) {
	d := dice(29)
	m := newLent(t, &d)
	free, pinned, used := 0, 0, 0
	for range 10000 {
		b := m.body()
		got := pins.Unpin(m.Source, b)
		if got != unpin(m.Source, b) {
			t.Fatalf("it may be moved, or not: %v: %s", got, mir.Text(b))
		}
		uses := false
		for range 6 {
			f := newFrame(b)
			uses = uses || f.walk(m.dice)
		}
		if uses && got {
			t.Fatalf("it may be moved, but uses what is its own: %s", mir.Text(b))
		}
		if uses {
			used++
		}
		if got {
			free++
		} else {
			pinned++
		}
	}
	if free < 1000 || pinned < 1000 || used < pinned/2 {
		t.Errorf("%d free, %d pinned, %d of these use what is their own, too few to tell", free, pinned, used)
	}
}

// frame is a look at what references of a body are of, on a way through it.
type frame struct {
	api.Body
	own  map[int]bool // of references that are of something, whether that is of the frame
	held map[int]bool // those that were so where it was suspended, and are still
	uses bool         // whether one of these was used
}

// newFrame stands ahead of the first step. References that are handed in are of things outside.
func newFrame(b api.Body) *frame {
	f := &frame{Body: b, own: map[int]bool{}, held: map[int]bool{}}
	for local := range b.Locals {
		if f.refers(local) {
			f.own[local] = false
		}
	}
	return f
}

func (f *frame) refers(local int) bool {
	return f.Locals[local].Ty.K == api.TyRef || f.Locals[local].Ty.K == api.TyMut
}

// walk goes on for some blocks, and tells whether what was its own was used.
func (f *frame) walk(d *dice) bool {
	block := 0
	for range 15 {
		x := f.Blocks[block]
		for _, in := range x.Ins {
			f.step(in)
		}
		f.end(x.End)
		if len(x.End.To) == 0 {
			break
		}
		block = x.End.To[d.roll(len(x.End.To))]
	}
	return f.uses
}

// use uses what stands at spots.
func (f *frame) use(spots ...api.Spot) {
	for _, x := range spots {
		f.uses = f.uses || f.held[x.Local]
	}
}

// part uses a local, if a part of it is set.
func (f *frame) part(x api.Spot) {
	if len(x.Path) > 0 {
		f.use(x)
	}
}

// lose is told of a local that is of nothing any more.
func (f *frame) lose(local int) {
	delete(f.own, local)
	delete(f.held, local)
}

func (f *frame) step(x api.In) {
	switch x.K {
	case api.InLive, api.InDead:
		f.lose(x.S.Local)
	case api.InDrop:
		f.use(x.S)
		f.lose(x.S.Local)
	case api.InPrint:
		f.operand(x.U)
	case api.InSet:
		for _, u := range x.V.Uses {
			f.operand(u)
		}
		f.part(x.S)
		if len(x.S.Path) == 0 && f.refers(x.S.Local) {
			f.set(x.S.Local, x.V)
		}
	}
}

func (f *frame) operand(u api.Use) {
	if !u.Num {
		f.use(u.S)
	}
}

// set lets a reference be of what another one is of, or of a spot.
func (f *frame) set(local int, v api.Value) {
	from := v.S
	if v.K == api.RvUse {
		from = v.Uses[0].S
	}
	own, ok := true, true // of a local that is no reference
	if f.refers(from.Local) {
		f.use(from)
		own, ok = f.own[from.Local]
	}
	f.lose(local)
	if ok {
		f.own[local] = own
	}
}

func (f *frame) end(x api.Tm) {
	switch x.K {
	case api.TmIf, api.TmReturn, api.TmYield, api.TmWait:
		f.operand(x.U)
	}
	f.part(x.S)
	if x.K == api.TmYield || x.K == api.TmAwait || x.K == api.TmWait {
		for local, own := range f.own {
			if own {
				f.held[local] = true
			}
		}
	}
}
