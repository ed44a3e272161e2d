package borrows_test

import (
	"slices"

	"cocoon/api"
)

// model answers as the chapters say it: it follows each loan, and each use, by itself on all ways.
type model struct {
	api.Body
	loans   []loan
	reached []bool
	holds   map[holding]struct{}
	asks    map[asking]bool
}

// asking is whether a local is used later.
type asking struct {
	place
	local int
}

// loan is where one is made, and of what.
type loan struct {
	place
	of  api.Spot
	mut bool
}

// place is one of a body: ahead of a step; of the end; or behind that.
type place struct{ block, step int }

// holding is a place at which a local may hold a loan.
type holding struct {
	place
	local, loan int
}

func modelOf(b api.Body) model {
	m := model{b, nil, make([]bool, len(b.Blocks)), map[holding]struct{}{}, map[asking]bool{}}
	for block, x := range b.Blocks {
		for step, in := range x.Ins {
			if in.K == api.InSet && (in.V.K == api.RvRef || in.V.K == api.RvMut) {
				m.loans = append(m.loans, loan{place{block, step}, in.V.S, in.V.K == api.RvMut})
			}
		}
	}
	m.reach(0)
	for i, x := range m.loans {
		if m.reached[x.block] {
			m.follow(holding{place{x.block, x.step + 1}, m.Blocks[x.block].Ins[x.step].S.Local, i})
		}
	}
	return m
}

func (m model) reach(block int) {
	if m.reached[block] {
		return
	}
	m.reached[block] = true
	for _, to := range m.Blocks[block].End.To {
		m.reach(to)
	}
}

func (m model) refers(local int) bool {
	return m.Locals[local].Ty.K == api.TyRef || m.Locals[local].Ty.K == api.TyMut
}

// follow goes on with a loan that a local holds.
func (m model) follow(x holding) {
	if _, was := m.holds[x]; was {
		return
	}
	m.holds[x] = struct{}{}
	block := m.Blocks[x.block]
	if x.step > len(block.Ins) {
		for _, to := range block.End.To {
			m.follow(holding{place{to, 0}, x.local, x.loan})
		}
		return
	}
	next := holding{place{x.block, x.step + 1}, x.local, x.loan}
	if x.step == len(block.Ins) {
		m.follow(next)
		return
	}
	in := block.Ins[x.step]
	changed := in.K == api.InLive || in.K == api.InDead || in.K == api.InSet && len(in.S.Path) == 0 && m.refers(in.S.Local)
	if !changed || in.S.Local != x.local {
		m.follow(next)
	}
	if in.K == api.InSet && changed && m.isHanded(in.V, x.local) {
		next.local = in.S.Local
		m.follow(next)
	}
}

// isHanded tells whether what a local holds is held by what is set to a value, too.
func (m model) isHanded(v api.Value, local int) bool {
	if v.K == api.RvUse {
		return !v.Uses[0].Num && v.Uses[0].S.Local == local
	}
	return v.S.Local == local && len(v.S.Path) > 0 && m.refers(local)
}

// uses are those of a step, or of an end, that count.
func uses(b api.Block, step int) []api.Use {
	if step == len(b.Ins) {
		switch b.End.K {
		case api.TmIf, api.TmReturn, api.TmYield, api.TmWait:
			return []api.Use{b.End.U}
		}
		return nil
	}
	x := b.Ins[step]
	if x.K == api.InPrint {
		return []api.Use{x.U}
	}
	return x.V.Uses
}

// needs are the spots whose locals a step, or an end, needs as they are.
func needs(b api.Block, step int) []api.Spot {
	var l []api.Spot
	for _, u := range uses(b, step) {
		if !u.Num {
			l = append(l, u.S)
		}
	}
	s := target(b, step)
	if s != nil && len(s.Path) > 0 {
		l = append(l, *s)
	}
	if step == len(b.Ins) {
		switch b.End.K {
		case api.TmMatch:
			l = append(l, b.End.S)
		case api.TmAwait, api.TmPoll:
			l = append(l, b.End.V.S)
		}
		return l
	}
	x := b.Ins[step]
	isOfSpot := x.K == api.InSet && (x.V.K == api.RvRef || x.V.K == api.RvMut || x.V.K == api.RvUnbox)
	switch {
	case isOfSpot:
		l = append(l, x.V.S)
	case x.K == api.InDrop || x.K == api.InOpen:
		l = append(l, x.S)
	}
	return l
}

// target is the spot that a step, or an end, sets; nil, if there is none.
func target(b api.Block, step int) *api.Spot {
	if step < len(b.Ins) {
		if x := b.Ins[step]; x.K == api.InSet {
			return &x.S
		}
		return nil
	}
	switch b.End.K {
	case api.TmAwait, api.TmPoll, api.TmWait:
		return &b.End.S
	}
	return nil
}

// renews tells whether nothing stays in a local of what was there ahead of a step, or an end.
func renews(b api.Block, step, local int) bool {
	if s := target(b, step); s != nil {
		return s.Local == local && len(s.Path) == 0
	}
	if step == len(b.Ins) {
		return false
	}
	x := b.Ins[step]
	switch x.K {
	case api.InLive, api.InDead:
		return x.S.Local == local
	case api.InOpen:
		return x.V.S.Local == local
	}
	return false
}

// later tells whether a local is used later, on some way from a place on.
func (m model) later(local int, from place) bool {
	seen := map[place]struct{}{}
	todo := []place{from}
	for len(todo) > 0 {
		x := todo[0]
		todo = todo[1:]
		if _, was := seen[x]; was {
			continue
		}
		seen[x] = struct{}{}
		b := m.Blocks[x.block]
		switch {
		case x.step > len(b.Ins):
			for _, to := range b.End.To {
				todo = append(todo, place{to, 0})
			}
		case slices.ContainsFunc(needs(b, x.step), func(y api.Spot) bool { return y.Local == local }):
			return true
		case !renews(b, x.step, local):
			todo = append(todo, place{x.block, x.step + 1})
		}
	}
	return false
}

// isUsed tells so, and keeps what it told.
func (m model) isUsed(local int, from place) bool {
	x := asking{from, local}
	if _, was := m.asks[x]; !was {
		m.asks[x] = m.later(local, from)
	}
	return m.asks[x]
}

// active are the loans of a place.
func (m model) active(block, step int) []int {
	var l []int
	at := place{block, step}
	for i := range m.loans {
		for local := range m.Locals {
			if _, held := m.holds[holding{at, local, i}]; held && m.isUsed(local, at) {
				l = append(l, i)
				break
			}
		}
	}
	return l
}

// overlap tells whether two spots go one way as far as both go.
func overlap(a, b api.Spot) bool {
	if a.Local != b.Local {
		return false
	}
	for i, step := range a.Path {
		if i < len(b.Path) && b.Path[i] != step {
			return false
		}
	}
	return true
}

// any tells whether one of some loans is such.
func (m model) any(l []int, such func(loan) bool) bool {
	return slices.ContainsFunc(l, func(i int) bool { return such(m.loans[i]) })
}

// barred tells whether something is that a step, or an end, does.
func (m model) barred(block, step int) bool {
	b := m.Blocks[block]
	ahead, behind := m.active(block, step), m.active(block, step+1)
	reads := func(x api.Spot) bool {
		return m.any(ahead, func(l loan) bool { return l.mut && overlap(l.of, x) })
	}
	goes := func(x api.Spot) bool {
		return m.any(slices.Concat(ahead, behind), func(l loan) bool { return l.of.Local == x.Local })
	}
	for _, u := range uses(b, step) {
		if !u.Num && (u.Move && goes(u.S) || !u.Move && reads(u.S)) {
			return true
		}
	}
	if s := target(b, step); s != nil && (len(s.Path) > 0 || !m.refers(s.Local)) {
		if m.any(behind, func(l loan) bool { return overlap(l.of, *s) }) {
			return true
		}
	}
	if step == len(b.Ins) {
		x := b.End
		return x.K == api.TmMatch && reads(x.S) || (x.K == api.TmAwait || x.K == api.TmPoll) && goes(x.V.S)
	}
	x := b.Ins[step]
	switch {
	case x.K == api.InOpen:
		return goes(x.S)
	case x.K == api.InDead || x.K == api.InDrop:
		return !m.refers(x.S.Local) && m.any(behind, func(l loan) bool { return l.of.Local == x.S.Local })
	case x.K != api.InSet:
		return false
	case x.V.K == api.RvRef:
		return reads(x.V.S)
	case x.V.K == api.RvMut:
		return m.any(ahead, func(l loan) bool { return overlap(l.of, x.V.S) })
	}
	return x.V.K == api.RvUnbox && goes(x.V.S)
}

// first is the first place that is barred.
func (m model) first() (block, step int, ok bool) {
	for block, x := range m.Blocks {
		for step := range len(x.Ins) + 1 {
			if m.reached[block] && m.barred(block, step) {
				return block, step, true
			}
		}
	}
	return 0, 0, false
}

// asked are the loans at a place, of a block that is reached.
func (m model) asked(block, step int) []int {
	if !m.reached[block] {
		return nil
	}
	return m.active(block, step)
}

// lent are the locals that are lent behind each block.
func (m model) lent() [][]bool {
	var l [][]bool
	for block, x := range m.Blocks {
		flags := make([]bool, len(m.Locals))
		if k := x.End.K; m.reached[block] && (k == api.TmYield || k == api.TmAwait || k == api.TmWait) {
			for _, i := range m.active(block, len(x.Ins)+1) {
				flags[m.loans[i].of.Local] = !m.refers(m.loans[i].of.Local)
			}
		}
		l = append(l, flags)
	}
	return l
}
