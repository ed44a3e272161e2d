package borrows

import (
	"cocoon/alive"
	"cocoon/api"
	"cocoon/loans"
	"cocoon/mir"
)

// view is a body, and what is known of its loans.
type view struct {
	body  api.Body
	loans []loans.Loan
	held  [][][]bool // which of them each local may hold at each place; nil of a block that is not reached
	alive [][][]bool // which locals are used later from each place on
}

// newView looks at a body; false, if that may not be.
func newView(s api.Source, b api.Body) (view, bool) {
	if !mir.Valid(s, b) {
		return view{}, false
	}
	return view{b, loans.Loans(b), loans.Held(s, b), alive.Alive(s, b)}, true
}

func (v view) isReached(block int) bool { return v.held[block] != nil }

// has tells whether there is such a place: of a block that is reached, ahead of one of its steps, or of its end, or behind that.
func (v view) has(block, step int) bool {
	return isPlace(block, len(v.held)) && isPlace(step, len(v.held[block]))
}

// isPlace tells whether a number is the place of something in a list that is so long.
func isPlace(n, long int) bool { return 0 <= n && n < long }

// active are the loans that are held at a place by locals that are used later, rising.
func (v view) active(block, step int) []int {
	n := len(v.loans)
	used := make([]bool, n)
	for local, later := range v.alive[block][step] {
		if !later {
			continue
		}
		for loan, held := range v.held[block][step][local*n:][:n] {
			used[loan] = used[loan] || held
		}
	}
	var l []int
	for loan, is := range used {
		if is {
			l = append(l, loan)
		}
	}
	return l
}

// activeLoans are what is told of these loans.
func (v view) activeLoans(block, step int) []loans.Loan {
	var l []loans.Loan
	for _, loan := range v.active(block, step) {
		l = append(l, v.loans[loan])
	}
	return l
}

// lent tells which locals are lent behind a block, if the body may be suspended there. A reference is never lent itself: what it is of is.
func (v view) lent(block int) []bool {
	l := make([]bool, len(v.body.Locals))
	x := v.body.Blocks[block]
	if !v.isReached(block) || !suspends(x.End) {
		return l
	}
	for _, loan := range v.activeLoans(block, len(x.Ins)+1) {
		l[loan.S.Local] = !v.isReference(loan.S.Local)
	}
	return l
}

// suspends tells whether the body may be suspended at an end. What polls a coroutine is not suspended by that.
func suspends(x api.Tm) bool {
	return x.K == api.TmYield || x.K == api.TmAwait || x.K == api.TmWait
}

func (v view) isReference(local int) bool {
	k := v.body.Locals[local].Ty.K
	return k == api.TyRef || k == api.TyMut
}
