package pins_test

import (
	"slices"
	"testing"

	"cocoon/api"
	"cocoon/mir"
	"cocoon/pins"
)

// TestHolds: what is checked moves no coroutine behind a poll, on any way, but such as hold no address of their own. Where it would move one, it is not let through.
func TestHolds(t *testing.T) {
	d := dice(47)
	m := newMaker(t, &d)
	free, faults := 0, 0
	for range 1500 {
		b, all := m.body(), m.bodies()
		if err, _ := pins.Check(m.Source, all, b); err != api.OK {
			faults += m.faults(b, all, &free)
		}
		mend(t, m.Source, all, b)
		if n := m.faults(b, all, &free); n > 0 {
			t.Fatalf("%d times what is pinned was moved: %s", n, mir.Text(b))
		}
	}
	if free < 1000 || faults < 500 {
		t.Errorf("%d free moves, %d faults, too few to tell", free, faults)
	}
}

// mend mends a body that is placed, step by step, till nothing that is pinned is moved.
func mend(t *testing.T, s api.Source, all []api.Body, b api.Body) {
	t.Helper()
	for {
		err, at := pins.Check(s, all, b)
		if err == api.OK {
			return
		}
		mended := false
		for _, x := range b.Blocks {
			for step, in := range x.Ins {
				if in.At == at && in.K == api.InSet {
					x.Ins[step] = api.In{K: api.InPrint, U: api.Use{Num: true}}
					mended = true
				}
			}
		}
		if !mended {
			t.Fatalf("%v at %d: %s", err, at, mir.Text(b))
		}
	}
}

// faults goes some ways, and tells on how many of them a coroutine was moved that is pinned; and how many were that are not.
func (m *maker) faults(b api.Body, all []api.Body, free *int) int {
	n := 0
	isPinned := pinnedBy(m.Source, all)
	for range 6 {
		w := newWay(b)
		w.walk(m.dice)
		for _, of := range w.moved {
			if isPinned(of) {
				n++
				break
			}
			*free++
		}
	}
	return n
}

// way is a look at where coroutines are on a way through a body.
type way struct {
	api.Body
	holds [][]int // of each local those that are somewhere in it
	made  []coroutine
	moved []api.Ty // of those that were moved behind a poll
}

// coroutine is one that was made.
type coroutine struct {
	of     api.Ty
	polled bool
}

// newWay stands ahead of the first step. Each local that is a coroutine, or a box of one, holds one that was not polled yet.
func newWay(b api.Body) *way {
	w := &way{Body: b, holds: make([][]int, len(b.Locals))}
	for local, x := range b.Locals {
		if x.Ty.K == api.TyCo {
			w.holds[local] = w.start(x.Ty)
		}
		if x.Ty.K == api.TyBox {
			w.holds[local] = w.start(x.Ty.L[0])
		}
	}
	return w
}

func (w *way) start(of api.Ty) []int {
	w.made = append(w.made, coroutine{of: of})
	return []int{len(w.made) - 1}
}

// walk goes on for some blocks.
func (w *way) walk(d *dice) {
	block := 0
	for range 20 {
		x := w.Blocks[block]
		for _, in := range x.Ins {
			w.step(in)
		}
		switch at := x.End.V.S.Local; x.End.K {
		case api.TmPoll:
			for _, i := range w.holds[at] {
				w.made[i].polled = true
			}
		case api.TmAwait:
			w.holds[at] = nil
		}
		if len(x.End.To) == 0 {
			return
		}
		block = x.End.To[d.roll(len(x.End.To))]
	}
}

func (w *way) step(x api.In) {
	switch x.K {
	case api.InLive, api.InDead, api.InDrop:
		w.holds[x.S.Local] = nil
	case api.InOpen:
		w.open(x)
	case api.InSet:
		held := w.value(x.V)
		if len(x.S.Path) == 0 {
			w.holds[x.S.Local] = held
		}
	}
}

// open moves what is in an enum, if it is of that kind.
func (w *way) open(x api.In) {
	held := w.take(x.S.Local)
	if x.V.S.Local < 0 {
		return
	}
	t := w.Locals[x.V.S.Local].Ty
	w.holds[x.V.S.Local] = slices.DeleteFunc(held, func(i int) bool { return w.made[i].of.Name != t.Name })
}

// value is what a value holds. Each local of a use with Move is moved, one behind the other.
func (w *way) value(v api.Value) []int {
	var held []int
	for _, u := range v.Uses {
		if !u.Move {
			continue
		}
		l := w.take(u.S.Local)
		held = append(held, l...)
		for _, i := range l {
			if w.Locals[u.S.Local].Ty.K == api.TyCo && w.made[i].polled {
				w.moved = append(w.moved, w.made[i].of)
			}
		}
	}
	switch v.K {
	case api.RvUnbox:
		return w.take(v.S.Local)
	case api.RvStart:
		names := [...]string{"s", "g", "h"}
		return w.start(api.Ty{K: api.TyCo, Name: names[v.Which]})
	}
	return held
}

func (w *way) take(local int) []int {
	l := w.holds[local]
	w.holds[local] = nil
	return l
}
