package borrows

import (
	"slices"

	"cocoon/api"
	"cocoon/loans"
)

// block tells where the first place of a block that is reached stands at which a deed is barred; false, if there is none.
func (v view) block(block int) (int, bool) {
	x := v.body.Blocks[block]
	ahead := v.activeLoans(block, 0)
	for step := range len(x.Ins) + 1 {
		behind := v.activeLoans(block, step+1)
		bars, barred := v.bars(ahead, behind), false
		do := deeds(func(d deed, x api.Spot) { barred = barred || bars[d](x) })
		if at := do.place(x, step); barred {
			return at, true
		}
		ahead = behind
	}
	return 0, false
}

// bars are what bars each deed, by the loans that are active ahead of it, and behind it. Where a reference is set, or ends, nothing is lost that it is of, so that loans of that don't bar it.
func (v view) bars(ahead, behind []loans.Loan) map[deed]func(api.Spot) bool {
	return map[deed]func(api.Spot) bool{
		reads: func(x api.Spot) bool {
			return slices.ContainsFunc(ahead, func(l loans.Loan) bool { return l.Mut && loans.Overlap(l.S, x) })
		},
		lends:  func(x api.Spot) bool { return overlaps(ahead, x) },
		moves:  func(x api.Spot) bool { return isLent(ahead, x.Local) || isLent(behind, x.Local) },
		writes: func(x api.Spot) bool { return !v.isWhole(x) && overlaps(behind, x) },
		ends:   func(x api.Spot) bool { return !v.isWhole(x) && isLent(behind, x.Local) },
	}
}

// isWhole tells whether a spot is a reference, and not what that is of.
func (v view) isWhole(x api.Spot) bool {
	return len(x.Path) == 0 && v.isReference(x.Local)
}

func overlaps(l []loans.Loan, x api.Spot) bool {
	return slices.ContainsFunc(l, func(y loans.Loan) bool { return loans.Overlap(y.S, x) })
}

func isLent(l []loans.Loan, local int) bool {
	return slices.ContainsFunc(l, func(x loans.Loan) bool { return x.S.Local == local })
}
