package loans

import (
	"slices"

	"cocoon/api"
	"cocoon/graph"
)

// place is that of a step.
type place struct{ block, step int }

// holder finds what the locals of a body may hold.
type holder struct {
	body   api.Body
	places map[place]int // which loan is made at a place
	reach  []bool        // which blocks are reached
	first  []rows        // what is held ahead of each of them
	passes []passage     // how that comes through it
}

func newHolder(b api.Body) *holder {
	n := len(b.Blocks)
	h := &holder{b, map[place]int{}, graph.Reach(b), make([]rows, n), make([]passage, n)}
	for x := range each(b) {
		h.places[place{x.Block, x.Step}] = len(h.places)
	}
	return h
}

// step makes what is held ahead of a step what is held behind it.
func (h *holder) step(w walk, at place) {
	x := h.body.Blocks[at.block].Ins[at.step]
	switch x.K {
	case api.InLive, api.InDead:
		w.lose(x.S.Local)
	case api.InSet:
		if len(x.S.Path) == 0 && h.isReference(x.S.Local) {
			h.set(w, at, x)
		}
	}
}

// set lets a reference hold what it is made of, and the loan by which it is made. It may be made of itself, so the loan comes last.
func (h *holder) set(w walk, at place, x api.In) {
	if from, ok := h.source(x.V); ok {
		w.take(x.S.Local, from)
	} else {
		w.lose(x.S.Local)
	}
	if loan, ok := h.places[at]; ok {
		w.of(x.S.Local)[loan] = true
	}
}

// source is the local out of whose loans a value comes; false, if there is none.
func (h *holder) source(v api.Value) (int, bool) {
	switch v.K {
	case api.RvRef, api.RvMut:
		return v.S.Local, len(v.S.Path) > 0 && h.isReference(v.S.Local)
	case api.RvUse:
		return v.Uses[0].S.Local, !v.Uses[0].Num
	}
	return 0, false
}

func (h *holder) isReference(local int) bool {
	k := h.body.Locals[local].Ty.K
	return k == api.TyRef || k == api.TyMut
}

// states are what is held ahead of each step, and each end, and behind each end, of the blocks that are reached.
func (h *holder) states() [][][]bool {
	l := make([][][]bool, len(h.body.Blocks))
	for block, reached := range h.reach {
		if !reached {
			continue
		}
		w := walk{h.first[block], make([]int, len(h.body.Locals))} // it is not asked since when
		for step := range h.body.Blocks[block].Ins {
			l[block] = append(l[block], slices.Clone(w.flags))
			h.step(w, place{block, step})
		}
		l[block] = append(l[block], slices.Clone(w.flags), w.flags) // an end changes nothing
	}
	return l
}
