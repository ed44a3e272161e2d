package machine

import (
	"math"

	"cocoon/api"
)

// reckoned is what comes of two numbers, and whether that is exact.
func reckoned(op api.Op, a, b int) (int, bool) {
	switch op {
	case api.OpAdd:
		return a + b, (a+b > a) == (b > 0)
	case api.OpSub:
		return a - b, (a-b < a) == (b > 0)
	case api.OpMul:
		return a * b, fits(a, b)
	case api.OpLess:
		return truth(a < b), true
	}
	return truth(a == b), true
}

// fits tells whether a product is none that is too large.
func fits(a, b int) bool {
	switch b {
	case 0:
		return true
	case -1: // the least number divided by it goes round
		return a != math.MinInt
	}
	return a*b/b == a
}

func truth(b bool) int {
	if b {
		return 1
	}
	return 0
}
