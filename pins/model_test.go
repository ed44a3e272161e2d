package pins_test

import (
	"slices"

	"cocoon/api"
	"cocoon/borrows"
)

// model answers as the chapter says it: it follows each poll by itself on all ways.
type model struct {
	api.Body
	reached []bool
	polled  map[polling]struct{}
}

// polling is a place at which a local may be polled: ahead of a step; of the end; or behind that.
type polling struct{ block, step, local int }

func modelOf(b api.Body) model {
	m := model{b, make([]bool, len(b.Blocks)), map[polling]struct{}{}}
	m.reach(0)
	for block, x := range b.Blocks {
		if m.reached[block] && x.End.K == api.TmPoll {
			m.follow(polling{block, len(x.Ins) + 1, x.End.V.S.Local})
		}
	}
	return m
}

func (m model) reach(block int) {
	if m.reached[block] {
		return
	}
	m.reached[block] = true
	for _, to := range m.Blocks[block].End.To {
		m.reach(to)
	}
}

// follow goes on with a local that is polled.
func (m model) follow(x polling) {
	if _, was := m.polled[x]; was {
		return
	}
	m.polled[x] = struct{}{}
	if block := m.Blocks[x.block]; x.step > len(block.Ins) {
		for _, to := range block.End.To {
			m.follow(polling{to, 0, x.local})
		}
	} else if !m.isOver(x) {
		m.follow(polling{x.block, x.step + 1, x.local})
	}
}

// isOver tells whether a local is polled no more behind a step, or an end.
func (m model) isOver(x polling) bool {
	block := m.Blocks[x.block]
	if x.step == len(block.Ins) {
		return block.End.K == api.TmAwait && block.End.V.S.Local == x.local
	}
	in := block.Ins[x.step]
	switch in.K {
	case api.InPrint:
		return false
	case api.InOpen:
		return in.V.S.Local == x.local
	case api.InSet:
		return in.S.Local == x.local && len(in.S.Path) == 0
	}
	return in.S.Local == x.local
}

// states are what may be polled at each place.
func (m model) states() [][][]bool {
	l := make([][][]bool, len(m.Blocks))
	for block, x := range m.Blocks {
		if !m.reached[block] {
			continue
		}
		for step := range len(x.Ins) + 2 {
			flags := make([]bool, len(m.Locals))
			for local := range flags {
				_, flags[local] = m.polled[polling{block, step, local}]
			}
			l[block] = append(l[block], flags)
		}
	}
	return l
}

// first is the first step that moves what is pinned; false, if there is none.
func (m model) first(isPinned func(api.Ty) bool) (block, step int, ok bool) {
	for block, x := range m.Blocks {
		for step, in := range x.Ins {
			if m.reached[block] && in.K == api.InSet && m.moves(block, step, isPinned) {
				return block, step, true
			}
		}
	}
	return 0, 0, false
}

// moves tells whether a step moves what is pinned.
func (m model) moves(block, step int, isPinned func(api.Ty) bool) bool {
	for _, u := range m.Blocks[block].Ins[step].V.Uses {
		_, polled := m.polled[polling{block, step, u.S.Local}]
		if u.Move && polled && isPinned(m.Locals[u.S.Local].Ty) {
			return true
		}
	}
	return false
}

// pinnedBy tells of types whether they are coroutines that are pinned.
func pinnedBy(s api.Source, all []api.Body) func(api.Ty) bool {
	return func(x api.Ty) bool {
		if x.K != api.TyCo {
			return false
		}
		fn := slices.IndexFunc(s.Fns, func(f api.Fn) bool { return f.Name == x.Name })
		return fn >= len(all) || !unpin(s, all[fn])
	}
}

// unpin tells whether a body may be, and nothing in it is lent where it may be suspended.
func unpin(s api.Source, b api.Body) bool {
	lent := borrows.Lent(s, b)
	for _, flags := range lent {
		for _, is := range flags {
			if is {
				return false
			}
		}
	}
	return lent != nil
}
