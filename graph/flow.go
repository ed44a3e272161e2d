package graph

import (
	"iter"
	"slices"

	"cocoon/api"
)

// step is one of a block, or its end.
type step struct{ block, place int }

// change is all that happens at a step.
type change struct{ gen, kill []int }

// changes are those of each step at which something happens.
type changes map[step]change

func newChanges(b api.Body, n int, l []Change) changes {
	c := changes{}
	for _, x := range l {
		if !isPlace(x.Block, len(b.Blocks)) || !isPlace(x.Step, len(b.Blocks[x.Block].Ins)+1) {
			continue
		}
		at := step{x.Block, x.Step}
		all := c[at]
		all.gen = addFlags(all.gen, x.Gen, n)
		all.kill = addFlags(all.kill, x.Kill, n)
		c[at] = all
	}
	return c
}

// addFlags adds to a list those of another one that are flags.
func addFlags(l, more []int, n int) []int {
	for _, flag := range more {
		if isPlace(flag, n) {
			l = append(l, flag)
		}
	}
	return l
}

// happen changes a state as it is changed at a step.
func (c changes) happen(at step, state []bool) {
	x := c[at]
	for _, flag := range x.kill {
		state[flag] = false
	}
	for _, flag := range x.gen {
		state[flag] = true
	}
}

// flow is how states go through blocks, and from one to the next ones: from where they are first known in a block to where they are known last.
type flow struct {
	changes
	body    api.Body
	n       int
	counts  []bool // of each block, whether it has states
	back    bool   // whether states are first known behind a block's end
	first   [][]bool
	nothing [][]bool // what a block makes of a state in which nothing holds
	all     [][]bool // and of one in which all holds
}

func newFlow(b api.Body, n int, l []Change, counts []bool, back bool) *flow {
	n = max(n, 0)
	f := &flow{changes: newChanges(b, n, l), body: b, n: n, counts: counts, back: back}
	f.nothing, f.all = f.rows(false), f.rows(true)
	for block := range f.each() {
		for place := range f.along(block) {
			f.happen(step{block, place}, f.nothing[block])
			f.happen(step{block, place}, f.all[block])
		}
	}
	return f
}

// rows are states of which each flag is the same, one of each block that counts.
func (f *flow) rows(flag bool) [][]bool {
	l := make([][]bool, len(f.body.Blocks))
	for block := range f.each() {
		l[block] = slices.Repeat([]bool{flag}, f.n)
	}
	return l
}

// each tells the blocks that count.
func (f *flow) each() iter.Seq[int] {
	return func(yield func(int) bool) {
		for block, ok := range f.counts {
			if ok && !yield(block) {
				return
			}
		}
	}
}

// along tells the steps of a block, and its end, in the order in which states go through them.
func (f *flow) along(block int) iter.Seq[int] {
	steps := len(f.body.Blocks[block].Ins)
	return func(yield func(int) bool) {
		for i := range steps + 1 {
			if f.back {
				i = steps - i
			}
			if !yield(i) {
				return
			}
		}
	}
}

// begin lets each flag be the same where states are first known.
func (f *flow) begin(flag bool) { f.first = f.rows(flag) }

// leaves tells what a block makes of a flag of its first state.
func (f *flow) leaves(block, flag int) bool {
	if f.first[block][flag] {
		return f.all[block][flag]
	}
	return f.nothing[block][flag]
}

// spread makes each flag so where a block comes from another one that leaves it so, and changes it nowhere else. What is one flag's hangs on no other one, so each is settled alone, and comes to each block once.
func (f *flow) spread(so bool, next func(int) iter.Seq[int]) {
	for flag := range f.n {
		var leave []int
		for block := range f.each() {
			if f.leaves(block, flag) == so {
				leave = append(leave, block)
			}
		}
		settle(leave, func(block int, put func(int)) {
			for to := range next(block) {
				before := f.leaves(to, flag)
				f.first[to][flag] = so
				if f.leaves(to, flag) != before {
					put(to)
				}
			}
		})
	}
}

// states are those of each block that counts: ahead of each step, and of its end, and behind that.
func (f *flow) states() [][][]bool {
	l := make([][][]bool, len(f.body.Blocks))
	for block := range f.each() {
		state := f.first[block]
		l[block] = append(l[block], state)
		for place := range f.along(block) {
			state = slices.Clone(state)
			f.happen(step{block, place}, state)
			l[block] = append(l[block], state)
		}
		if f.back {
			slices.Reverse(l[block])
		}
	}
	return l
}
