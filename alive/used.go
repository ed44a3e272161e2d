package alive

import "cocoon/api"

// usedByStep tells which locals a step uses (Gen), and which it sets (Kill).
func usedByStep(c *change, x api.In) {
	switch x.K {
	case api.InLive, api.InDead:
		c.kill(x.S)
	case api.InSet:
		c.gen(read(x.V.Uses...)...)
		switch x.V.K {
		case api.RvRef, api.RvMut, api.RvUnbox:
			c.gen(x.V.S)
		}
		c.set(x.S)
	case api.InDrop: // its U is its S again, or nothing
		c.gen(x.S)
	case api.InPrint:
		c.gen(read(x.U)...)
	case api.InOpen:
		c.gen(x.S)
		if x.V.S.Local >= 0 {
			c.kill(x.V.S)
		}
	}
}

// usedByEnd tells so of an end.
func usedByEnd(c *change, x api.Tm) {
	switch x.K {
	case api.TmIf, api.TmReturn, api.TmYield:
		c.gen(read(x.U)...)
	case api.TmMatch:
		c.gen(x.S)
	case api.TmAwait, api.TmPoll:
		c.gen(x.V.S)
		c.set(x.S)
	case api.TmWait:
		c.gen(read(x.U)...)
		c.set(x.S)
	}
}

// read are the spots of uses that are no numbers.
func read(uses ...api.Use) []api.Spot {
	var l []api.Spot
	for _, u := range uses {
		if !u.Num {
			l = append(l, u.S)
		}
	}
	return l
}
