package borrows_test

import (
	"slices"
	"testing"

	"cocoon/api"
	"cocoon/borrows"
	"cocoon/mir"
)

// TestHolds: of what is checked, along any way, while a reference is used later, what it is of is neither moved, nor ended, nor, but by it, written; nor read, if it may be changed by it. Where that does not hold, it is not let through.
func TestHolds(t *testing.T) {
	d := dice(71)
	m := newMaker(t, &d)
	used, lost, faults := 0, 0, 0
	for range 1500 {
		b := m.body()
		if err, _ := borrows.Check(m.Source, b); err != api.OK {
			faults += m.faults(b, &used, &lost)
		}
		mend(t, m.Source, b)
		if n := m.faults(b, &used, &lost); n > 0 {
			t.Fatalf("%d times something was used that was lost: %s", n, mir.Text(b))
		}
	}
	if used < 50000 || lost < 20000 || faults < 500 {
		t.Errorf("%d used, %d lost, %d faults, too few to tell", used, lost, faults)
	}
}

// mend mends a body that is placed, step by step, till nothing is barred.
func mend(t *testing.T, s api.Source, b api.Body) {
	t.Helper()
	last := -1
	for {
		err, at := borrows.Check(s, b)
		if err == api.OK {
			return
		}
		block, step := placeOf(b, at)
		if at == last || block < 0 {
			t.Fatalf("%v at %d is mended: %s", err, at, mir.Text(b))
		}
		mended(b, block, step)
		last = at
	}
}

// placeOf is the place of a step, or an end, that stands somewhere in a body that is placed.
func placeOf(b api.Body, at int) (block, step int) {
	for block, x := range b.Blocks {
		for step := range len(x.Ins) + 1 {
			if where(b, block, step) == at {
				return block, step
			}
		}
	}
	return -1, -1
}

// faults goes some ways, and tells on how many of them something was used that was lost.
func (m *maker) faults(b api.Body, used, lost *int) int {
	n := 0
	for range 6 {
		w := newWay(b)
		if w.walk(m.dice) {
			n++
		}
		*used += w.used
		*lost += w.lost
	}
	return n
}

// way is a look at what references are of on a way through a body.
type way struct {
	model
	aims       map[int]int // of references that are of something, which one of points
	points     []point
	used, lost int
	fault      bool
}

// point is what a reference is of, since it was made: a spot that is reached through no other reference.
type point struct {
	of   api.Spot
	from int // the one of which it was made; none, if it was made of a local
	mut  bool
	lost bool // whether something was done to what it is of that a reference to it must not see
}

const none = -1

// newWay stands ahead of the first step. References are of things outside: a local below 0.
func newWay(b api.Body) *way {
	w := &way{model: model{Body: b}, aims: map[int]int{}}
	for local, x := range b.Locals {
		if w.refers(local) {
			w.make(local, point{of: api.Spot{Local: -1 - local}, from: none, mut: x.Ty.K == api.TyMut})
		}
	}
	return w
}

func (w *way) make(local int, x point) {
	w.aims[local] = len(w.points)
	w.points = append(w.points, x)
}

// walk goes on for some blocks, and tells whether something was used that was lost.
func (w *way) walk(d *dice) bool {
	block := 0
	for range 15 {
		x := w.Blocks[block]
		for step := range len(x.Ins) + 1 {
			w.place(x, step)
		}
		if len(x.End.To) == 0 {
			break
		}
		block = x.End.To[d.roll(len(x.End.To))]
	}
	return w.fault
}

// reached is what a spot is of: through a reference, what that is of. It tells which point it is reached by; or that it is not known.
func (w *way) reached(x api.Spot) (api.Spot, int, bool) {
	if len(x.Path) == 0 || !w.refers(x.Local) {
		return x, none, true
	}
	i, ok := w.aims[x.Local]
	if !ok {
		return x, none, false
	}
	w.used++
	w.fault = w.fault || w.points[i].lost
	of := w.points[i].of
	return api.Spot{Local: of.Local, Path: slices.Concat(of.Path, x.Path[1:])}, i, true
}

// lose loses what is such, but for what something is reached by.
func (w *way) lose(by int, such func(point) bool) {
	var over []int
	for ; by != none; by = w.points[by].from {
		over = append(over, by)
	}
	for i, x := range w.points {
		if !x.lost && such(x) && !slices.Contains(over, i) {
			w.points[i].lost = true
			w.lost++
		}
	}
}

func (w *way) read(x api.Spot) {
	if of, by, ok := w.reached(x); ok {
		w.lose(by, func(p point) bool { return p.mut && overlap(p.of, of) })
	}
}

func (w *way) write(x api.Spot) {
	if of, by, ok := w.reached(x); ok {
		w.lose(by, func(p point) bool { return overlap(p.of, of) })
	}
}

// goes is told where a local's whole value goes away. What a reference is of stays.
func (w *way) goes(local int) {
	if !w.refers(local) {
		w.lose(none, func(p point) bool { return p.of.Local == local })
	}
}

// whole uses a reference itself, and tells which point it is of.
func (w *way) whole(local int) (int, bool) {
	i, ok := w.aims[local]
	if ok {
		w.used++
		w.fault = w.fault || w.points[i].lost
	}
	return i, ok
}

// place goes over a step, or an end.
func (w *way) place(x api.Block, step int) {
	for _, u := range uses(x, step) {
		switch {
		case u.Num:
		case len(u.S.Path) == 0 && w.refers(u.S.Local):
			w.whole(u.S.Local)
		case u.Move:
			w.goes(u.S.Local)
		default:
			w.read(u.S)
		}
	}
	if step < len(x.Ins) {
		w.step(x.Ins[step])
	} else if x.End.K == api.TmMatch {
		w.read(x.End.S)
	} else if x.End.K == api.TmAwait || x.End.K == api.TmPoll {
		w.goes(x.End.V.S.Local)
	}
	if s := target(x, step); s != nil && (len(s.Path) > 0 || !w.refers(s.Local)) {
		w.write(*s)
	}
}

// step goes over what is in one beside its uses, and beside what it writes.
func (w *way) step(x api.In) {
	local := x.S.Local
	switch {
	case x.K == api.InDrop && w.refers(local):
		w.whole(local)
	case x.K == api.InDrop || x.K == api.InDead || x.K == api.InOpen:
		w.goes(local)
	}
	if x.K == api.InLive || x.K == api.InDead || x.K == api.InDrop {
		delete(w.aims, local)
		return
	}
	if x.K != api.InSet {
		return
	}
	switch x.V.K {
	case api.RvUnbox:
		w.goes(x.V.S.Local)
	case api.RvRef:
		w.read(x.V.S)
		w.lend(local, x.V.S, false)
	case api.RvMut:
		w.write(x.V.S)
		w.lend(local, x.V.S, true)
	case api.RvUse:
		w.hand(local, x.V.Uses[0])
	}
}

// lend lets a reference be of a spot.
func (w *way) lend(local int, x api.Spot, mut bool) {
	of, by, ok := w.reached(x)
	delete(w.aims, local)
	if ok {
		w.make(local, point{of: of, from: by, mut: mut})
	}
}

// hand lets a reference be of what another one is of, which may be moved away.
func (w *way) hand(local int, u api.Use) {
	if u.Num || len(u.S.Path) > 0 || !w.refers(u.S.Local) {
		return
	}
	i, ok := w.aims[u.S.Local]
	if u.Move {
		delete(w.aims, u.S.Local)
	}
	delete(w.aims, local)
	if ok {
		w.aims[local] = i
	}
}
