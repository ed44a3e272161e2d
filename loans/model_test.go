package loans_test

import (
	"slices"

	"cocoon/api"
)

// model answers as the chapter says it: it goes in rounds over all places until no place tells more.
type model struct{ api.Body }

// loan is where one is made, and of what.
type loan struct {
	block, step int
	x           api.In
}

func (m model) loans() []loan {
	var l []loan
	for block, x := range m.Blocks {
		for step, in := range x.Ins {
			if in.K == api.InSet && (in.V.K == api.RvRef || in.V.K == api.RvMut) {
				l = append(l, loan{block, step, in})
			}
		}
	}
	return l
}

func (m model) refers(local int) bool {
	return m.Locals[local].Ty.K == api.TyRef || m.Locals[local].Ty.K == api.TyMut
}

// reached goes on in rounds.
func (m model) reached() []bool {
	l := make([]bool, len(m.Blocks))
	l[0] = true
	for range l {
		for from, x := range m.Blocks {
			for _, to := range x.End.To {
				l[to] = l[to] || l[from]
			}
		}
	}
	return l
}

// holds tells whether a local holds a loan behind a step, as it is asked what is held ahead of it.
func (m model) holds(block, step, local int, x loan, ahead func(local int) bool) bool {
	if step == len(m.Blocks[block].Ins) {
		return ahead(local)
	}
	in := m.Blocks[block].Ins[step]
	v := in.V
	switch {
	case in.S.Local != local:
		return ahead(local)
	case in.K == api.InLive || in.K == api.InDead:
		return false
	case in.K != api.InSet || len(in.S.Path) > 0 || !m.refers(local):
		return ahead(local)
	case v.K == api.RvRef || v.K == api.RvMut:
		return x.block == block && x.step == step || len(v.S.Path) > 0 && m.refers(v.S.Local) && ahead(v.S.Local)
	case v.K == api.RvUse && !v.Uses[0].Num:
		return ahead(v.Uses[0].S.Local)
	}
	return false
}

// held are flags of each local and each loan at each place of the blocks that are reached.
func (m model) held() [][][]bool {
	all, reached := m.loans(), m.reached()
	l := make([][][]bool, len(m.Blocks))
	for block, x := range m.Blocks {
		for step := 0; reached[block] && step < len(x.Ins)+2; step++ {
			l[block] = append(l[block], make([]bool, len(m.Locals)*len(all)))
		}
	}
	for m.round(all, l) {
	}
	return l
}

// round goes over all places once, and tells whether something more is held.
func (m model) round(all []loan, l [][][]bool) bool {
	more := false
	for block, states := range l {
		for step, state := range states {
			for i := range state {
				if !state[i] && m.rule(all, l, block, step, i) {
					state[i] = true
					more = true
				}
			}
		}
	}
	return more
}

// rule tells whether a flag holds at a place, as others are.
func (m model) rule(all []loan, l [][][]bool, block, step, flag int) bool {
	local, which := flag/len(all), flag%len(all)
	if step > 0 {
		return m.holds(block, step-1, local, all[which], func(local int) bool {
			return l[block][step-1][local*len(all)+which]
		})
	}
	for from, x := range m.Blocks {
		if l[from] != nil && slices.Contains(x.End.To, block) && l[from][len(x.Ins)+1][flag] {
			return true
		}
	}
	return false
}
