package moves_test

import (
	"slices"

	"cocoon/api"
	"cocoon/kinds"
)

// model answers as the chapter says it: it goes all ways with one local at a time.
type model struct {
	api.Source
	api.Body
	ahead map[point]struct{} // how each local may come to each place
}

// point is a place of a body, and a local there that is set, or not.
type point struct {
	block, step, local int
	set                bool
}

func modelOf(s api.Source, b api.Body) model {
	m := model{s, b, map[point]struct{}{}}
	for i := range b.Locals {
		m.walk(i)
	}
	return m
}

// walk goes all ways with a local.
func (m model) walk(local int) {
	todo := []point{{0, 0, local, local < m.Params}}
	for len(todo) > 0 {
		x := todo[0]
		todo = todo[1:]
		if _, was := m.ahead[x]; was {
			continue
		}
		m.ahead[x] = struct{}{}
		block := m.Blocks[x.block]
		switch {
		case x.step < len(block.Ins):
			todo = append(todo, point{x.block, x.step + 1, local, m.behind(block.Ins[x.step], local, x.set)})
		case x.step == len(block.Ins):
			todo = append(todo, point{x.block, x.step + 1, local, behindEnd(block.End, local, x.set)})
		default:
			for _, to := range block.End.To {
				todo = append(todo, point{to, 0, local, x.set})
			}
		}
	}
}

// behind is whether a local is set behind a step.
func (m model) behind(x api.In, local int, set bool) bool {
	switch x.K {
	case api.InLive, api.InDead, api.InDrop:
		return set && x.S.Local != local
	case api.InSet:
		if len(x.S.Path) == 0 && x.S.Local == local {
			return true
		}
		return set && !taken(x.V, local)
	case api.InOpen:
		return x.V.S.Local == local || set && x.S.Local != local
	}
	return set
}

// taken tells whether a value moves a local away.
func taken(v api.Value, local int) bool {
	uses := slices.ContainsFunc(v.Uses, func(u api.Use) bool { return u.Move && u.S.Local == local })
	return uses || v.K == api.RvUnbox && v.S.Local == local
}

func behindEnd(x api.Tm, local int, set bool) bool {
	sets := x.K == api.TmAwait || x.K == api.TmPoll || x.K == api.TmWait
	if sets && len(x.S.Path) == 0 && x.S.Local == local {
		return true
	}
	return set && !(x.K == api.TmAwait && x.V.S.Local == local)
}

// comes tells whether a local comes to a place so, on one way at least.
func (m model) comes(block, step, local int, set bool) bool {
	_, ok := m.ahead[point{block, step, local, set}]
	return ok
}

func (m model) reached(block int) bool {
	return m.comes(block, 0, 0, true) || m.comes(block, 0, 0, false)
}

func (m model) may(block, step, local int) bool { return m.comes(block, step, local, true) }

func (m model) must(block, step, local int) bool { return !m.comes(block, step, local, false) }

// states are what may be set, or what must.
func (m model) states(is func(block, step, local int) bool) [][][]bool {
	var l [][][]bool
	for i, x := range m.Blocks {
		l = append(l, nil)
		if !m.reached(i) {
			continue
		}
		for step := range len(x.Ins) + 2 {
			var state []bool
			for local := range m.Locals {
				state = append(state, is(i, step, local))
			}
			l[i] = append(l[i], state)
		}
	}
	return l
}

// used are the locals of uses that are no numbers.
func used(l []api.Use) []int {
	var all []int
	for _, u := range l {
		if !u.Num {
			all = append(all, u.S.Local)
		}
	}
	return all
}

// needs are the locals that must be set ahead of a step.
func needs(x api.In) []int {
	switch x.K {
	case api.InSet:
		l := used(x.V.Uses)
		if x.V.K == api.RvRef || x.V.K == api.RvMut || x.V.K == api.RvUnbox {
			l = append(l, x.V.S.Local)
		}
		if len(x.S.Path) > 0 {
			l = append(l, x.S.Local)
		}
		return l
	case api.InPrint:
		return used([]api.Use{x.U})
	case api.InOpen:
		return []int{x.S.Local}
	}
	if x.K == api.InDrop && x.U.Move {
		return []int{x.S.Local}
	}
	return nil
}

func needsAtEnd(x api.Tm) []int {
	var l []int
	switch x.K {
	case api.TmIf, api.TmReturn, api.TmYield, api.TmWait:
		l = used([]api.Use{x.U})
	case api.TmMatch:
		l = []int{x.S.Local}
	case api.TmAwait, api.TmPoll:
		l = []int{x.V.S.Local}
	}
	if x.K != api.TmMatch && len(x.S.Path) > 0 {
		l = append(l, x.S.Local)
	}
	return l
}

// loses tells whether a step sets what drops, and may be set, and is not moved away in it.
func (m model) loses(x api.In, block, step int) bool {
	if x.K != api.InSet || len(x.S.Path) > 0 || taken(x.V, x.S.Local) {
		return false
	}
	return kinds.Drops(m.Source, m.Locals[x.S.Local].Ty) && m.may(block, step, x.S.Local)
}

// wrong is the first place at which something is wrong.
func (m model) wrong() (block, step int, ok bool) {
	for i, x := range m.Blocks {
		if !m.reached(i) {
			continue
		}
		for j := range len(x.Ins) + 1 {
			var l []int
			lost := false
			if j < len(x.Ins) {
				l, lost = needs(x.Ins[j]), m.loses(x.Ins[j], i, j)
			} else {
				l = needsAtEnd(x.End)
			}
			unset := func(local int) bool { return !m.must(i, j, local) }
			if lost || slices.ContainsFunc(l, unset) {
				return i, j, true
			}
		}
	}
	return 0, 0, false
}
