package moves

import (
	"cocoon/api"
	"cocoon/kinds"
)

// checker looks at the places of a body.
type checker struct {
	body      api.Body
	must, may [][][]bool
	drops     []bool // of each local, whether its type drops
}

func newChecker(s api.Source, b api.Body) checker {
	c := checker{body: b, must: flow(b, true), may: flow(b, false)}
	for _, x := range b.Locals {
		c.drops = append(c.drops, kinds.Drops(s, x.Ty))
	}
	return c
}

// block tells where the first place of a block stands at which something is wrong; false, if there is none.
func (c checker) block(block int) (int, bool) {
	for step := range len(c.body.Blocks[block].Ins) + 1 {
		if at, wrong := c.place(block, step); wrong {
			return at, true
		}
	}
	return 0, false
}

// place tells where a step, or an end, of a block that is reached stands, and whether one of its deeds is wrong.
func (c checker) place(block, step int) (int, bool) {
	must, may := c.must[block][step], c.may[block][step] // nobody asks for these rows again: what is taken goes out of them
	wrong := false
	d := deeds{
		needs: each(func(local int) { wrong = wrong || !must[local] }),
		takes: each(func(local int) { must[local], may[local] = false, false }),
		loses: each(func(local int) { wrong = wrong || may[local] && c.drops[local] }),
		sets:  each(func(int) {}),
	}
	at := d.place(c.body.Blocks[block], step)
	return at, wrong
}
