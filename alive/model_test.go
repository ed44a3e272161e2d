package alive_test

import (
	"slices"

	"cocoon/api"
)

// model answers as the chapter says it: it goes all ways with one local at a time.
type model struct{ api.Body }

// point is a place of a body; the step behind its last one is its end, one more is behind that.
type point struct{ block, step int }

// next are the points that come behind one.
func (m model) next(x point) []point {
	block := m.Blocks[x.block]
	if x.step <= len(block.Ins) {
		return []point{{x.block, x.step + 1}}
	}
	var l []point
	for _, to := range block.End.To {
		l = append(l, point{to, 0})
	}
	return l
}

// ways looks at all points to which ways from some come; it goes on behind those of which the look says so.
func (m model) ways(from point, look func(point) bool) {
	was := map[point]struct{}{}
	todo := []point{from}
	for len(todo) > 0 {
		x := todo[0]
		todo = todo[1:]
		if _, ok := was[x]; ok {
			continue
		}
		was[x] = struct{}{}
		if look(x) {
			todo = append(todo, m.next(x)...)
		}
	}
}

// happens is what a local is for at a point: it is used, and it is set. Behind an end nothing happens.
func (m model) happens(x point, local int) (used, set bool) {
	block := m.Blocks[x.block]
	switch {
	case x.step < len(block.Ins):
		in := block.Ins[x.step]
		return stepUses(in, local), stepSets(in, local)
	case x.step == len(block.Ins):
		return endUses(block.End, local), endSets(block.End, local)
	}
	return false, false
}

// isUsed tells whether one of uses, that is no number, is of a local.
func isUsed(l []api.Use, local int) bool {
	return slices.ContainsFunc(l, func(u api.Use) bool { return !u.Num && u.S.Local == local })
}

func stepUses(x api.In, local int) bool {
	isS := x.S.Local == local
	switch x.K {
	case api.InSet:
		ofSpot := x.V.K == api.RvRef || x.V.K == api.RvMut || x.V.K == api.RvUnbox
		return isUsed(x.V.Uses, local) || ofSpot && x.V.S.Local == local || isS && len(x.S.Path) > 0
	case api.InPrint:
		return isUsed([]api.Use{x.U}, local)
	}
	return isS && (x.K == api.InDrop || x.K == api.InOpen)
}

func stepSets(x api.In, local int) bool {
	isS := x.S.Local == local
	switch x.K {
	case api.InLive, api.InDead:
		return isS
	case api.InSet:
		return isS && len(x.S.Path) == 0
	}
	return x.K == api.InOpen && x.V.S.Local == local
}

func endUses(x api.Tm, local int) bool {
	takes := x.K == api.TmIf || x.K == api.TmReturn || x.K == api.TmYield || x.K == api.TmWait
	goesOn := x.K == api.TmAwait || x.K == api.TmPoll
	return takes && isUsed([]api.Use{x.U}, local) ||
		goesOn && x.V.S.Local == local ||
		x.S.Local == local && (x.K == api.TmMatch || len(x.S.Path) > 0)
}

func endSets(x api.Tm, local int) bool {
	sets := x.K == api.TmAwait || x.K == api.TmPoll || x.K == api.TmWait
	return sets && x.S.Local == local && len(x.S.Path) == 0
}

// isAlive tells whether a way from a point comes to where a local is used, and not ahead of that to where it is set.
func (m model) isAlive(from point, local int) bool {
	found := false
	m.ways(from, func(x point) bool {
		used, set := m.happens(x, local)
		found = found || used
		return !used && !set
	})
	return found
}

// hasPlace are the points at which a local may have a place: there is a way to it from where it begins, and it ends nowhere on it.
func (m model) hasPlace(local int) map[point]struct{} {
	has := map[point]struct{}{}
	isIn := func(x point, k api.InKind) bool {
		l := m.Blocks[x.block].Ins
		return x.step < len(l) && l[x.step].K == k && l[x.step].S.Local == local
	}
	from := func(x point) {
		m.ways(x, func(x point) bool {
			has[x] = struct{}{}
			return !isIn(x, api.InDead)
		})
	}
	if local < m.Params || local == len(m.Locals)-1 {
		from(point{0, 0})
	}
	m.ways(point{0, 0}, func(x point) bool {
		if isIn(x, api.InLive) {
			from(m.next(x)[0])
		}
		return true
	})
	return has
}

// reached are the blocks to which a way comes.
func (m model) reached() []bool {
	l := make([]bool, len(m.Blocks))
	m.ways(point{0, 0}, func(x point) bool {
		l[x.block] = true
		return true
	})
	return l
}

// states are flags of each local at each point of some blocks.
func (m model) states(asked []bool, is func(x point, local int) bool) [][][]bool {
	var l [][][]bool
	for i, x := range m.Blocks {
		l = append(l, nil)
		if !asked[i] {
			continue
		}
		for step := range len(x.Ins) + 2 {
			var state []bool
			for local := range m.Locals {
				state = append(state, is(point{i, step}, local))
			}
			l[i] = append(l[i], state)
		}
	}
	return l
}

func (m model) alive() [][][]bool {
	return m.states(slices.Repeat([]bool{true}, len(m.Blocks)), m.isAlive)
}

func (m model) storage() [][][]bool {
	var has []map[point]struct{}
	for i := range m.Locals {
		has = append(has, m.hasPlace(i))
	}
	return m.states(m.reached(), func(x point, local int) bool {
		_, ok := has[local][x]
		return ok
	})
}

// saved are the locals that are, as a text.
func (m model) saved(storage [][][]bool) string {
	text := ""
	for local := range len(m.Locals) - 1 {
		for i, x := range m.Blocks {
			suspends := x.End.K == api.TmYield || x.End.K == api.TmAwait || x.End.K == api.TmWait
			if suspends && storage[i] != nil && storage[i][len(x.Ins)][local] {
				text += " " + itoa(local)
				break
			}
		}
	}
	return text[min(1, len(text)):]
}

func (m model) holds(storage [][][]bool) [][]bool {
	l := make([][]bool, len(m.Locals))
	for a := range l {
		for b := range l {
			both := func(state []bool) bool { return state[a] && state[b] }
			l[a] = append(l[a], a == b || slices.ContainsFunc(slices.Concat(storage...), both))
		}
	}
	return l
}
