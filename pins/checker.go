package pins

import (
	"slices"

	"cocoon/api"
	"cocoon/kinds"
)

// checker looks at the steps of a body.
type checker struct {
	source api.Source
	all    []api.Body
	body   api.Body
	polled [][][]bool
	unpin  map[string]answer // of the coroutines that were asked about, by their names
}

// answer is whether a coroutine may be moved where it is suspended.
type answer struct{ yes bool }

func newChecker(s api.Source, all []api.Body, b api.Body) checker {
	return checker{s, all, b, polled(b), map[string]answer{}}
}

func (c checker) isReached(block int) bool { return c.polled[block] != nil }

// block tells where the first step of a block that is reached stands that moves what is pinned; false, if there is none.
func (c checker) block(block int) (int, bool) {
	for step, x := range c.body.Blocks[block].Ins {
		polled := c.polled[block][step]
		pinned := func(u api.Use) bool { return u.Move && polled[u.S.Local] && !c.mayMove(u.S.Local) }
		if x.K == api.InSet && slices.ContainsFunc(x.V.Uses, pinned) {
			return x.At, true
		}
	}
	return 0, false
}

// mayMove tells whether the coroutine that a local holds, which was polled, may be moved. A coroutine's body is looked at once, and only if it is asked about: that may take long.
func (c checker) mayMove(local int) bool {
	name := c.body.Locals[local].Ty.Name
	x, asked := c.unpin[name]
	if !asked {
		fn := kinds.FnOf(c.source, name)
		x.yes = 0 <= fn && fn < len(c.all) && Unpin(c.source, c.all[fn])
		c.unpin[name] = x
	}
	return x.yes
}
