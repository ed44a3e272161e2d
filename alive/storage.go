package alive

import (
	"cocoon/api"
	"cocoon/graph"
)

// storage is which locals may have a place: at first the parameters, and the result.
func storage(b api.Body) [][][]bool {
	start := make([]bool, len(b.Locals))
	for i := range b.Params {
		start[i] = true
	}
	start[len(start)-1] = true
	l := changes(b, placedByStep, func(*change, api.Tm) {})
	return graph.Flow(b, len(b.Locals), start, l, false)
}

// placedByStep tells which locals have a place behind a step (Gen), and which have none (Kill).
func placedByStep(c *change, x api.In) {
	switch x.K {
	case api.InLive:
		c.gen(x.S)
	case api.InDead:
		c.kill(x.S)
	}
}

// suspended tells of each local whether it may have a place at an end at which the body may be suspended.
func suspended(b api.Body) []bool {
	saved := make([]bool, len(b.Locals))
	for block, states := range storage(b) {
		x := b.Blocks[block]
		if states == nil || !suspends(x.End) {
			continue
		}
		for local, has := range states[len(x.Ins)] {
			saved[local] = saved[local] || has
		}
	}
	return saved
}

// suspends tells whether the body may be suspended at an end. What polls a coroutine is not suspended by that.
func suspends(x api.Tm) bool {
	return x.K == api.TmYield || x.K == api.TmAwait || x.K == api.TmWait
}
