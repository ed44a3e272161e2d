package alive

import (
	"cocoon/api"
	"cocoon/graph"
)

// change is what a step, or an end, does with locals.
type change struct{ graph.Change }

func (c *change) gen(spots ...api.Spot) { c.Gen = addLocals(c.Gen, spots...) }

func (c *change) kill(spots ...api.Spot) { c.Kill = addLocals(c.Kill, spots...) }

// set sets a local. Where a part of it is set, the local is used, as its other parts stay.
func (c *change) set(x api.Spot) {
	if len(x.Path) > 0 {
		c.gen(x)
		return
	}
	c.kill(x)
}

// addLocals adds the locals of spots to a list.
func addLocals(l []int, spots ...api.Spot) []int {
	for _, x := range spots {
		l = append(l, x.Local)
	}
	return l
}

// changes are those of all steps and ends of a body, as they are told of each step, and of each end.
func changes(b api.Body, ofStep func(*change, api.In), ofEnd func(*change, api.Tm)) []graph.Change {
	var l []graph.Change
	for block, x := range b.Blocks {
		for step, in := range x.Ins {
			c := change{graph.Change{Block: block, Step: step}}
			ofStep(&c, in)
			l = append(l, c.Change)
		}
		c := change{graph.Change{Block: block, Step: len(x.Ins)}}
		ofEnd(&c, x.End)
		l = append(l, c.Change)
	}
	return l
}
