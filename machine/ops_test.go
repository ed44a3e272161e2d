package machine_test

import (
	"math"
	"slices"
	"testing"

	"cocoon/api"
	"cocoon/code"
	"cocoon/machine"
)

// TestOps runs pieces of code that tell numbers, and return 9 or err.
func TestOps(t *testing.T) {
	address := in(api.OpFrame, 1, 5, 0) // register 1 is that of word 5
	for _, x := range []struct {
		what string
		body fun
		told []int
		err  api.Errno
	}{
		{"const", fun{set(0, math.MinInt), tell(0), set(0, 3), tell(0)}, []int{math.MinInt, 3}, api.OK},
		{"frame", fun{in(api.OpFrame, 1, 3, 0), in(api.OpLoad, 2, 1, 0), tell(2), in(api.OpFrame, 1, 4, 0), in(api.OpLoad, 2, 1, 0), tell(2)}, []int{40, 41}, api.OK},
		{"frame is an address", fun{in(api.OpFrame, 1, 0, 0), tell(1)}, nil, api.ErrKind},
		{"frame, the last word", fun{in(api.OpFrame, 1, 9, 0), in(api.OpClear, 1, 0, 1)}, nil, api.OK},
		{"frame, behind its words", fun{in(api.OpFrame, 1, 10, 0), in(api.OpClear, 1, 0, 0), in(api.OpStore, 1, 0, 0)}, nil, api.ErrRange},
		{"frame, far behind", fun{in(api.OpFrame, 1, api.MaxWords, 0), in(api.OpLoad, 2, 1, 0)}, nil, api.ErrRange},
		{"off", fun{in(api.OpFrame, 1, 1, 0), in(api.OpOff, 1, 1, 2), in(api.OpLoad, 2, 1, 0), tell(2), in(api.OpOff, 3, 1, 1), in(api.OpLoad, 2, 3, 0), tell(2), in(api.OpLoad, 2, 1, 0), tell(2)}, []int{40, 41, 40}, api.OK},
		{"off, a number", fun{set(1, 3), in(api.OpOff, 2, 1, 0)}, nil, api.ErrKind},
		{"load of nothing", fun{address, in(api.OpLoad, 2, 1, 0)}, nil, api.ErrInit},
		{"load, a number", fun{set(1, 1), in(api.OpLoad, 2, 1, 0)}, nil, api.ErrKind},
		{"store", fun{address, set(2, -8), in(api.OpStore, 1, 2, 0), in(api.OpLoad, 3, 1, 0), tell(3)}, []int{-8}, api.OK},
		{"store of an address", fun{address, in(api.OpStore, 1, 1, 0), in(api.OpLoad, 2, 1, 0), set(3, 6), in(api.OpStore, 2, 3, 0), in(api.OpLoad, 4, 1, 0), tell(4)}, []int{6}, api.OK},
		{"store, a number", fun{set(1, 1), in(api.OpStore, 1, 1, 0)}, nil, api.ErrKind},
		{"copy", fun{address, in(api.OpFrame, 2, 3, 0), in(api.OpCopy, 1, 2, 2), in(api.OpFrame, 3, 6, 0), in(api.OpLoad, 4, 3, 0), tell(4), in(api.OpLoad, 4, 2, 0), tell(4)}, []int{41, 40}, api.OK},
		{"copy of too many", fun{address, in(api.OpFrame, 2, 3, 0), in(api.OpCopy, 1, 2, 3)}, nil, api.ErrInit},
		{"copy behind", fun{in(api.OpFrame, 1, 9, 0), in(api.OpFrame, 2, 3, 0), in(api.OpCopy, 1, 2, 2)}, nil, api.ErrRange},
		{"copy, a number", fun{address, set(2, 3), in(api.OpCopy, 1, 2, 1)}, nil, api.ErrKind},
		{"copy to a number", fun{in(api.OpFrame, 2, 3, 0), set(1, 3), in(api.OpCopy, 1, 2, 1)}, nil, api.ErrKind},
		{"copy of nothing to a number", fun{address, set(2, 3), in(api.OpCopy, 2, 1, 0)}, nil, api.ErrKind},
		{"move", fun{address, in(api.OpFrame, 2, 3, 0), in(api.OpMove, 1, 2, 2), in(api.OpFrame, 3, 6, 0), in(api.OpLoad, 4, 3, 0), tell(4), in(api.OpLoad, 4, 2, 0)}, []int{41}, api.ErrInit},
		{"move, the second word is no more", fun{address, in(api.OpFrame, 2, 3, 0), in(api.OpMove, 1, 2, 2), in(api.OpFrame, 3, 4, 0), in(api.OpLoad, 4, 3, 0)}, nil, api.ErrInit},
		{"move over itself", fun{in(api.OpFrame, 1, 4, 0), in(api.OpFrame, 2, 3, 0), in(api.OpMove, 1, 2, 2), in(api.OpFrame, 3, 5, 0), in(api.OpLoad, 4, 3, 0), tell(4), in(api.OpLoad, 4, 1, 0)}, []int{41}, api.ErrInit},
		{"move of nothing from a number", fun{address, set(2, 3), in(api.OpMove, 1, 2, 0)}, nil, api.ErrKind},
		{"move to a number", fun{set(1, 3), in(api.OpFrame, 2, 3, 0), in(api.OpMove, 1, 2, 1)}, nil, api.ErrKind},
		{"clear", fun{in(api.OpFrame, 1, 3, 0), in(api.OpClear, 1, 0, 1), in(api.OpFrame, 2, 4, 0), in(api.OpLoad, 3, 2, 0), tell(3), in(api.OpLoad, 3, 1, 0)}, []int{41}, api.ErrInit},
		{"clear behind", fun{in(api.OpFrame, 1, 3, 0), in(api.OpClear, 1, 0, 8)}, nil, api.ErrRange},
		{"clear, a number", fun{set(1, 3), in(api.OpClear, 1, 0, 0)}, nil, api.ErrKind},
		{"alloc", fun{in(api.OpAlloc, 1, 0, 1), set(2, 5), in(api.OpStore, 1, 2, 0), in(api.OpLoad, 3, 1, 0), tell(3), in(api.OpOff, 1, 1, 1), in(api.OpStore, 1, 2, 0)}, []int{5}, api.ErrRange},
		{"alloc, not stored", fun{in(api.OpAlloc, 1, 0, 1), in(api.OpLoad, 3, 1, 0)}, nil, api.ErrInit},
		{"free", fun{in(api.OpAlloc, 1, 0, 1), in(api.OpFree, 1, 0, 0), in(api.OpLoad, 3, 1, 0)}, nil, api.ErrFreed},
		{"free twice", fun{in(api.OpAlloc, 1, 0, 1), in(api.OpFree, 1, 0, 0), in(api.OpFree, 1, 0, 0)}, nil, api.ErrFreed},
		{"free, not at its beginning", fun{in(api.OpAlloc, 1, 0, 2), in(api.OpOff, 1, 1, 1), in(api.OpFree, 1, 0, 0)}, nil, api.ErrRange},
		{"free, a number", fun{set(1, 1), in(api.OpFree, 1, 0, 0)}, nil, api.ErrKind},
		{"jump", fun{in(api.OpJump, 0, 0, 0, 2), back(), set(1, 1), tell(1)}, []int{1}, api.OK},
		{"if not", fun{set(1, 0), in(api.OpIf, 1, 0, 0, 3), tell(1)}, []int{0}, api.OK},
		{"if", fun{set(1, -1), in(api.OpIf, 1, 0, 0, 3), back(), tell(1)}, []int{-1}, api.OK},
		{"if, an address", fun{address, in(api.OpIf, 1, 0, 0, 2)}, nil, api.ErrKind},
		{"table", fun{set(1, 1), in(api.OpTable, 1, 0, 0, 2, 3, 2), back(), tell(1)}, []int{1}, api.OK},
		{"table, its first place", fun{set(1, 0), in(api.OpTable, 1, 0, 0, 3, 2, 2), back(), tell(1)}, []int{0}, api.OK},
		{"table, its last place", fun{set(1, 2), in(api.OpTable, 1, 0, 0, 2, 2, 3), back(), tell(1)}, []int{2}, api.OK},
		{"table, behind", fun{set(1, 3), in(api.OpTable, 1, 0, 0, 2, 2, 2)}, nil, api.ErrTable},
		{"table, far behind", fun{set(1, math.MaxInt), in(api.OpTable, 1, 0, 0, 2)}, nil, api.ErrTable},
		{"table, ahead", fun{set(1, -1), in(api.OpTable, 1, 0, 0, 2)}, nil, api.ErrTable},
		{"table, an address", fun{address, in(api.OpTable, 1, 0, 0, 2)}, nil, api.ErrKind},
		{"print, an address", fun{address, tell(1)}, nil, api.ErrKind},
		{"drop, an address", fun{address, in(api.OpDrop, 1, 0, 0)}, nil, api.ErrKind},
		{"yield, an address", fun{address, in(api.OpYield, 1, 0, 0)}, nil, api.ErrKind},
		{"wait, an address", fun{address, in(api.OpWait, 2, 1, 0)}, nil, api.ErrKind},
		{"poll, a number", fun{set(1, 1), in(api.OpPoll, 1, 0, 0, 2)}, nil, api.ErrKind},
		{"step, a number", fun{set(1, 1), in(api.OpStep, 1, 1, 0, 2)}, nil, api.ErrKind},
		{"cancel, a number", fun{set(1, 1), in(api.OpCancel, 1, 0, 0)}, nil, api.ErrKind},
	} {
		if len(x.body) < 3 {
			x.body = append(x.body, fun{set(0, 0), set(0, 0)}...) // so that the labels 2 and 3 go on
		}
		m, r := does(t, 2, join(fun{set(0, 0)}, shift(x.body, 1), shift(result(9), 1))...)
		if x.err == api.OK {
			m.came(x.what, r, machine.Done, 9)
		} else {
			m.came(x.what, r, machine.Bad, int(x.err))
		}
		m.prints(x.told...)
	}
}

// shift is code that stands so many instructions on.
func shift(body fun, n int) fun {
	var l fun
	for _, x := range body {
		x.L = slices.Clone(x.L)
		for i := range x.L {
			x.L[i] += n
		}
		l = append(l, x)
	}
	return l
}

// TestSums: sums, differences and products that are exact, or go on at the label, where the register is what it was.
func TestSums(t *testing.T) {
	const big, least = math.MaxInt, math.MinInt
	for _, x := range []struct {
		op    api.Op
		b, c  int
		want  int
		exact bool
	}{
		{api.OpAdd, 2, 3, 5, true}, {api.OpAdd, -2, -3, -5, true}, {api.OpAdd, 2, 0, 2, true}, {api.OpAdd, 0, 0, 0, true},
		{api.OpAdd, big - 1, 1, big, true}, {api.OpAdd, big, 1, 0, false}, {api.OpAdd, 1, big, 0, false}, {api.OpAdd, big, big, 0, false},
		{api.OpAdd, least + 1, -1, least, true}, {api.OpAdd, least, -1, 0, false}, {api.OpAdd, -1, least, 0, false}, {api.OpAdd, least, least, 0, false},
		{api.OpAdd, big, least, -1, true}, {api.OpAdd, least, big, -1, true}, {api.OpAdd, big, 0, big, true}, {api.OpAdd, 0, least, least, true},
		{api.OpSub, 2, 3, -1, true}, {api.OpSub, 3, 2, 1, true}, {api.OpSub, -2, -3, 1, true}, {api.OpSub, 5, 0, 5, true},
		{api.OpSub, least + 1, 1, least, true}, {api.OpSub, least, 1, 0, false}, {api.OpSub, least, big, 0, false},
		{api.OpSub, big, -1, 0, false}, {api.OpSub, big - 1, -1, big, true}, {api.OpSub, 0, least, 0, false}, {api.OpSub, -1, least, big, true},
		{api.OpSub, 0, big, -big, true}, {api.OpSub, least, least, 0, true}, {api.OpSub, -2, big, 0, false}, {api.OpSub, big, least, 0, false},
		{api.OpMul, 2, 3, 6, true}, {api.OpMul, -2, 3, -6, true}, {api.OpMul, -2, -3, 6, true}, {api.OpMul, 0, least, 0, true}, {api.OpMul, least, 0, 0, true},
		{api.OpMul, big, 1, big, true}, {api.OpMul, 1, least, least, true}, {api.OpMul, least, 1, least, true}, {api.OpMul, big, -1, -big, true},
		{api.OpMul, least, -1, 0, false}, {api.OpMul, -1, least, 0, false}, {api.OpMul, big, 2, 0, false}, {api.OpMul, 2, big, 0, false},
		{api.OpMul, least, 2, 0, false}, {api.OpMul, least / 2, 2, least, true}, {api.OpMul, -2, least / 2, 0, false}, {api.OpMul, 1 << 32, 1 << 31, 0, false},
		{api.OpMul, 1 << 32, 1 << 32, 0, false}, {api.OpMul, -(1 << 32), 1 << 31, least, true}, {api.OpMul, big, big, 0, false}, {api.OpMul, least, least, 0, false},
		{api.OpMul, 3037000500, 3037000500, 0, false}, {api.OpMul, 3037000499, 3037000499, 9223372030926249001, true},
	} {
		body := fun{set(1, x.b), set(2, x.c), set(3, 77), in(x.op, 3, 1, 2, 6), in(api.OpYield, 3, 0, 0), back(), tell(3), in(api.OpYield, 3, 0, 0), back()}
		m, r := does(t, 0, body...)
		if x.exact {
			m.came("a sum that is exact", r, machine.Yielded, x.want)
			m.prints()
		} else {
			m.came("a sum that is too large", r, machine.Yielded, 77)
			m.prints(77)
		}
	}
}

// TestCompare: less, and the same.
func TestCompare(t *testing.T) {
	for _, x := range []struct{ b, c, less, same int }{
		{1, 2, 1, 0}, {2, 1, 0, 0}, {2, 2, 0, 1}, {-1, 1, 1, 0}, {1, -1, 0, 0}, {0, 0, 0, 1},
		{math.MinInt, math.MaxInt, 1, 0}, {math.MaxInt, math.MinInt, 0, 0}, {math.MinInt, math.MinInt, 0, 1}, {math.MaxInt, math.MaxInt, 0, 1},
	} {
		m, r := does(t, 0, set(1, x.b), set(2, x.c), in(api.OpLess, 3, 1, 2), tell(3), in(api.OpSame, 3, 1, 2), tell(3), tell(1), tell(2), in(api.OpYield, 3, 0, 0), back())
		m.came("compare", r, machine.Yielded, x.same)
		m.prints(x.less, x.same, x.b, x.c)
	}
}

// TestReckonKinds: neither of two that are added, or compared, may be an address, even where both are the same one.
func TestReckonKinds(t *testing.T) {
	for _, op := range []api.Op{api.OpAdd, api.OpSub, api.OpMul, api.OpLess, api.OpSame} {
		for _, x := range [][2]int{{1, 2}, {2, 1}, {1, 1}} {
			ins := in(op, 3, x[0], x[1])
			if op <= api.OpMul {
				ins.L = []int{3}
			}
			m, r := does(t, 0, in(api.OpFrame, 1, 0, 0), set(2, 0), ins, back())
			m.came("an address that is reckoned with", r, machine.Bad, int(api.ErrKind))
		}
		ins := in(op, 3, 2, 2)
		if op <= api.OpMul {
			ins.L = []int{4}
		}
		m, r := does(t, 0, in(api.OpFrame, 3, 0, 0), set(2, 0), ins, in(api.OpYield, 3, 0, 0), back())
		if r.Kind != machine.Yielded {
			m.Errorf("where it is set to a number: %v", r)
		}
	}
}

// TestTells: what is told has its numbers, to the limits.
func TestTells(t *testing.T) {
	m, r := does(t, 0, set(1, math.MinInt), set(2, math.MaxInt), tell(1), in(api.OpDrop, 2, math.MaxInt, 0), in(api.OpDrop, 1, 0, 0), tell(2), in(api.OpYield, 1, 0, 0), back())
	m.came("tells", r, machine.Yielded, math.MinInt)
	m.told(printed(0, math.MinInt), dropped(0, math.MaxInt, math.MaxInt), dropped(0, 0, math.MinInt), printed(0, math.MaxInt))
}

// TestSetsAlone: an instruction that writes a register writes no other one, and all sixteen are kept apart.
func TestSetsAlone(t *testing.T) {
	var body fun
	var want []int
	for i := range api.MaxRegs {
		body = append(body, set(i, 100+i))
		want = append(want, 100+i)
	}
	for i := range api.MaxRegs {
		body = append(body, tell(i))
	}
	m, _ := does(t, 0, append(body, back())...)
	m.prints(want...)
}

// TestCalls: a function has registers of its own, of which the first one is handed in, and what called it goes on with its own.
func TestCalls(t *testing.T) {
	p := of([]co{{words: 4, resume: join(fun{set(0, 1), set(1, 2), set(3, 5), in(api.OpCall, 1, 2, 0), tell(0), tell(1), tell(3)}, result(6))}},
		fun{tell(0), set(1, 40), in(api.OpAdd, 0, 0, 1, 4), in(api.OpCall, 0, 3, 0), tell(0), end()},
		fun{tell(0), set(0, 50), tell(0), end()})
	x := testerOf(t, p, much)
	x.poll(x.start(0), machine.Done, 6)
	x.prints(2, 42, 50, 42, 1, 2, 5)
}

// TestFreshRegisters: none but the first one comes from what calls, nor from a call ahead.
func TestFreshRegisters(t *testing.T) {
	p := of([]co{{words: 4, resume: fun{set(0, math.MaxInt), set(1, 2), in(api.OpCall, 0, 2, 0), in(api.OpCall, 0, 2, 0), in(api.OpYield, 1, 0, 0), back()}}},
		fun{in(api.OpAdd, 1, 0, 0, 2), end(), tell(1), set(1, 3), end()}) // at the label it may be told, but was not written
	x := testerOf(t, p, much)
	x.poll(x.start(0), machine.Yielded, 2)
	x.prints(0, 0)
}

// TestHandsIn: an address is handed in, too; what is done through it stays.
func TestHandsIn(t *testing.T) {
	p := of([]co{{words: 4, resume: fun{in(api.OpFrame, 1, 3, 0), in(api.OpCall, 1, 2, 0), in(api.OpLoad, 2, 1, 0), in(api.OpYield, 2, 0, 0), back()}}},
		fun{set(1, 8), in(api.OpStore, 0, 1, 0), end()})
	x := testerOf(t, p, much)
	x.poll(x.start(0), machine.Yielded, 8)
}

// TestErrorsWithin: an error in what is called, polled, stepped or cancelled ends all as it is.
func TestErrorsWithin(t *testing.T) {
	wrong := fun{set(1, 1), tell(1), in(api.OpFree, 1, 0, 0), back()}
	wrongEnd := fun{set(1, 2), tell(1), in(api.OpFree, 1, 0, 0), end()}
	for _, x := range []api.Ins{in(api.OpCall, 1, 4, 0), in(api.OpPoll, 1, 0, 0, 2), in(api.OpStep, 2, 1, 0, 2), in(api.OpCancel, 1, 0, 0)} {
		y, p := begun(t, []co{
			{words: 5, resume: join(fun{in(api.OpStart, 1, 1, 0), x, set(3, 3), tell(3)}, result(1))},
			{resume: wrong, cancel: wrongEnd},
		}, wrongEnd)
		y.bad(p, api.ErrKind)
		if told := y.m.Told(); len(told) != 1 {
			t.Errorf("%s: told %v", code.Text(api.Program{Funs: [][]api.Ins{{x}}}), told)
		}
		y.live(2)
		y.bad(p, api.ErrKind) // it goes on from its beginning again
		y.live(3)
	}
}
