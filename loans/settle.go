package loans

import (
	"iter"
	"slices"
)

// passage is how what is held ahead of a block comes through it.
type passage struct {
	since []int // whose row each local holds behind it
	moved []int // the locals that hold one that is not their own
}

func newPassage(since []int) passage {
	p := passage{since: slices.Clone(since)}
	for local, from := range since {
		if from != nobody && from != local {
			p.moved = append(p.moved, local)
		}
	}
	return p
}

// holders tells which locals hold behind the block what a local held ahead of it.
func (p passage) holders(local int) iter.Seq[int] {
	return func(yield func(int) bool) {
		if p.since[local] == local && !yield(local) {
			return
		}
		for _, to := range p.moved {
			if p.since[to] == local && !yield(to) {
				return
			}
		}
	}
}

// holding is a local that holds a loan behind a block.
type holding struct{ block, local int }

// settle finds what is held ahead of each block: who holds a loan behind the block in which it is made, and then how it comes through others.
func (h *holder) settle() {
	locals, loans := len(h.body.Locals), len(h.places)
	w := walk{newRows(locals, loans), make([]int, locals)}
	made := make([][]holding, loans)
	for block, reached := range h.reach {
		if !reached {
			continue
		}
		w.begin()
		h.through(w, block, made)
		h.passes[block] = newPassage(w.since)
		h.first[block] = newRows(locals, loans)
	}
	for loan, l := range made {
		h.spread(loan, l)
	}
}

// through walks through a block, and tells of each loan that is made there who holds it behind the block.
func (h *holder) through(w walk, block int, made [][]holding) {
	steps := h.body.Blocks[block].Ins
	for step := range steps {
		h.step(w, place{block, step})
	}
	for step := range steps {
		loan, ok := h.places[place{block, step}]
		if !ok {
			continue
		}
		for local := range h.body.Locals {
			if w.of(local)[loan] {
				made[loan] = append(made[loan], holding{block, local})
			}
		}
	}
}

// spread lets a loan come to all blocks behind those that are left with it. Who holds one loan hangs on no other one, so each is spread alone, and comes to each local ahead of each block once.
func (h *holder) spread(loan int, todo []holding) {
	for len(todo) > 0 {
		x := todo[len(todo)-1]
		todo = todo[:len(todo)-1]
		for _, to := range h.body.Blocks[x.block].End.To {
			row := h.first[to].of(x.local)
			if row[loan] {
				continue
			}
			row[loan] = true
			for local := range h.passes[to].holders(x.local) {
				todo = append(todo, holding{to, local})
			}
		}
	}
}
