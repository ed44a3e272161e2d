package machine_test

import (
	"testing"

	"cocoon/api"
	"cocoon/machine"
)

// The ways a coroutine of ends comes out, each told by what its frame's word 3 is.
const (
	returns = iota
	aborts
	yields
	waitsOn
	goesWrong
)

// ends is a coroutine that tells 1, and then comes out as its argument tells; when it is cancelled it tells 2.
func ends() co {
	return co{words: 4, args: 1, resume: join(
		fun{set(1, 1), tell(1), in(api.OpFrame, 2, 3, 0), in(api.OpLoad, 3, 2, 0), in(api.OpTable, 3, 0, 0, 11, 5, 6, 8, 10)},
		fun{abort()},
		fun{in(api.OpYield, 3, 0, 0), back()},
		fun{in(api.OpWait, 4, 3, 0), back()},
		fun{in(api.OpFree, 1, 0, 0)},
		result(70),
	), cancel: fun{set(1, 2), tell(1), end()}}
}

// outcome is how a frame comes out by each of them, when no event is completed.
func outcome(way int) (machine.Kind, int) {
	switch way {
	case returns:
		return machine.Done, 70
	case aborts:
		return machine.Aborted, 0
	case yields:
		return machine.Yielded, yields
	case waitsOn:
		return machine.Pending, waitsOn
	}
	return machine.Bad, int(api.ErrKind)
}

// TestOutcomes polls a frame of each outcome twice: what is at its end doesn't run again.
func TestOutcomes(t *testing.T) {
	x := testerOf(t, of([]co{ends()}), much)
	for way := returns; way <= goesWrong; way++ {
		p := x.start(0, way)
		kind, n := outcome(way)
		x.poll(p, kind, n)
		x.prints(1)
		x.poll(p, kind, n)
		if way == returns || way == aborts {
			x.prints()
		} else {
			x.prints(1)
		}
	}
}

// TestCancels cancels a frame of each outcome: one that is at its end runs nothing, and each is freed.
func TestCancels(t *testing.T) {
	x := testerOf(t, of([]co{ends()}), much)
	for way := returns; way <= goesWrong; way++ {
		p := x.start(0, way)
		x.m.Poll(p, 0, much)
		x.prints(1)
		x.live(1)
		x.cancel(p, machine.Done, 0)
		if way == returns || way == aborts {
			x.prints()
		} else {
			x.prints(2)
		}
		x.live(0)
		x.cancel(p, machine.Bad, int(api.ErrFreed))
		x.bad(p, api.ErrFreed)
		x.told()
	}
	p := x.start(0, returns)
	x.cancel(p, machine.Done, 0) // never gone on with
	x.prints(2)
	x.live(0)
}

// holder is a coroutine that starts one of the second kind, hands it its argument, and does with it what x says; then it tells the register 5, and returns 9. Behind the label it tells 99, and the register 5, and aborts.
func holder(x api.Ins) co {
	x.L = nil
	if x.Op == api.OpPoll || x.Op == api.OpStep {
		x.L = []int{13}
	}
	return co{words: 4, args: 1, resume: join(
		fun{in(api.OpStart, 1, 1, 0), in(api.OpFrame, 2, 3, 0), in(api.OpLoad, 3, 2, 0), in(api.OpOff, 4, 1, 3), in(api.OpStore, 4, 3, 0), set(5, 55)},
		fun{x, set(6, 8), tell(5)},
		result(9),
		fun{set(6, 99), tell(6), tell(5), abort()},
	)}
}

// begunOf is ends, that is started without an argument: holder stores it.
func begunOf() co {
	c := ends()
	c.args = 0
	return c
}

// TestPolls: what polls goes on, goes on at the label, or comes out as what it polls.
func TestPolls(t *testing.T) {
	x := testerOf(t, of([]co{holder(in(api.OpPoll, 1, 0, 0)), begunOf()}), much)
	for way := returns; way <= goesWrong; way++ {
		kind, n := outcome(way)
		p := x.start(0, way)
		switch way {
		case returns:
			x.poll(p, machine.Done, 9)
			x.prints(1, 55)
		case aborts:
			x.poll(p, machine.Aborted, 0)
			x.prints(1, 99, 55)
		default:
			x.poll(p, kind, n)
			x.prints(1)
			x.poll(p, kind, n) // from its first instruction on, with one more that it starts
			x.prints(1)
		}
	}
	x.live(5 + 5 + 3)
}

// TestSteps: the register tells whether it is done; what is handed out is told; else it goes on at the label, where the register is what it was.
func TestSteps(t *testing.T) {
	x := testerOf(t, of([]co{holder(in(api.OpStep, 5, 1, 0)), begunOf()}), much)
	for way, want := range [][]api.Event{
		{printed(0, 1), printed(0, 0)},
		{printed(0, 1), printed(0, 99), printed(0, 55)},
		{printed(0, 1), stepped(0, yields), printed(0, 1)},
		{printed(0, 1), printed(0, 1)},
		{printed(0, 1)},
	} {
		p := x.start(0, way)
		switch way {
		case aborts:
			x.poll(p, machine.Aborted, 0)
		case goesWrong:
			x.bad(p, api.ErrKind)
		default:
			x.poll(p, machine.Done, 9)
		}
		x.told(want...)
	}
}

// TestStepsItself: the register that is written may be the one that is read.
func TestStepsItself(t *testing.T) {
	x := testerOf(t, of([]co{
		{words: 4, resume: fun{in(api.OpStart, 1, 1, 0), in(api.OpStep, 1, 1, 0, 4), tell(1), back(), back()}},
		{resume: fun{set(1, -3), in(api.OpYield, 1, 0, 0), back()}},
	}), much)
	x.m.Poll(x.start(0), 4, much)
	x.told(stepped(4, -3), printed(4, 1))
}

// TestAtTheirEnd: a frame that is at its end is so at once, whether it is polled or stepped, and takes no fuel.
func TestAtTheirEnd(t *testing.T) {
	for _, op := range []api.Op{api.OpPoll, api.OpStep} {
		again := in(op, 2, 1, 0, 5)
		if op == api.OpPoll {
			again = in(op, 1, 0, 0, 5)
		}
		for _, last := range []api.Op{api.OpReturn, api.OpAbort} {
			x := testerOf(t, of([]co{
				{resume: fun{in(api.OpStart, 1, 1, 0), again, set(3, 7), tell(3), back(), set(3, 8), tell(3), in(api.OpFrame, 4, 1, 0), in(api.OpStore, 4, 3, 0), again, back()}},
				{resume: fun{set(1, 1), tell(1), in(last, 0, 0, 0)}},
			}), much)
			x.m.Poll(x.start(0), 0, 30)
			if last == api.OpReturn {
				x.prints(1, 7)
			} else {
				x.prints(1, 8, 8, 8, 8, 8) // the label of the second one is itself, till no fuel is left
			}
		}
	}
}

// dispatch goes on at the first label in state 0, at the second one in state 1, ..; of three instructions.
func dispatch(labels ...int) fun {
	return fun{in(api.OpFrame, 1, 0, 0), in(api.OpLoad, 2, 1, 0), in(api.OpTable, 2, 0, 0, labels...)}
}

// counts is a coroutine that hands out 1, then 2, waits for event 5, and returns what that brought.
func counts() co {
	wait := join(dispatch(3, 8, 13), // 0
		fun{set(3, 1)}, state(1), fun{in(api.OpYield, 3, 0, 0)}, // 3: the yield is at 7
		fun{set(3, 2)}, state(2), fun{in(api.OpYield, 3, 0, 0)}, // 8: at 12
		fun{set(3, 5), in(api.OpWait, 4, 3, 0), in(api.OpFrame, 5, 1, 0), in(api.OpStore, 5, 4, 0), back()}, // 13
	)
	return co{words: 3, resume: wait}
}

// TestGoesOn: a frame goes on from its first instruction each time, and finds where it was by what it stored.
func TestGoesOn(t *testing.T) {
	x, p := begun(t, []co{counts()})
	q := x.start(0)
	x.poll(p, machine.Yielded, 1)
	x.poll(p, machine.Yielded, 2)
	x.poll(q, machine.Yielded, 1)
	x.poll(p, machine.Pending, 5)
	x.poll(p, machine.Pending, 5)
	x.m.Complete(5, -8)
	x.poll(q, machine.Yielded, 2)
	x.poll(p, machine.Done, -8)
	x.poll(q, machine.Done, -8)
	x.poll(p, machine.Done, -8)
}

// TestFirstInstruction: without a state it begins anew, with all registers the number 0.
func TestFirstInstruction(t *testing.T) {
	x, p := begun(t, []co{{words: 3, resume: fun{set(1, 7), in(api.OpYield, 1, 0, 0), set(1, 8), in(api.OpYield, 1, 0, 0), back()}}})
	x.poll(p, machine.Yielded, 7)
	x.poll(p, machine.Yielded, 7)
	// at a label a register may be told that was written nowhere
	x, p = begun(t, []co{
		{words: 3, resume: fun{in(api.OpStart, 1, 1, 0), in(api.OpStep, 2, 1, 0, 3), back(), tell(2), set(2, 5), set(3, 0), in(api.OpYield, 2, 0, 0), back()}},
		{resume: fun{abort()}},
	})
	for range 2 {
		x.poll(p, machine.Yielded, 5)
		x.prints(0)
	}
}

// TestChains: a frame polls one that polls one; what is handed out at the bottom comes out at the top, again and again, till all are done.
func TestChains(t *testing.T) {
	// polls is a coroutine that starts the next one, keeps it at word 3, and polls it till it is done; then it returns what that did.
	polls := func(next int) co {
		return co{words: 4, resume: join(dispatch(3, 9),
			fun{in(api.OpStart, 3, next, 0), in(api.OpFrame, 4, 3, 0), in(api.OpStore, 4, 3, 0)}, state(1), // 3
			fun{in(api.OpFrame, 4, 3, 0), in(api.OpLoad, 3, 4, 0), in(api.OpPoll, 3, 0, 0, 17)}, // 9
			fun{in(api.OpOff, 5, 3, 1), in(api.OpFrame, 6, 1, 0), in(api.OpCopy, 6, 5, 1), in(api.OpCancel, 3, 0, 0), back()},
			fun{abort()},
		), cancel: fun{in(api.OpFrame, 4, 3, 0), in(api.OpLoad, 3, 4, 0), in(api.OpCancel, 3, 0, 0), end()}}
	}
	bottom := counts()
	bottom.cancel = fun{set(1, 66), tell(1), end()}
	x, p := begun(t, []co{polls(1), polls(2), polls(3), bottom})
	q := x.start(0)
	x.poll(p, machine.Yielded, 1)
	x.poll(p, machine.Yielded, 2)
	x.poll(p, machine.Pending, 5)
	x.poll(q, machine.Yielded, 1)
	x.live(8)
	x.cancel(q, machine.Done, 0)
	x.prints(66)
	x.live(4)
	x.m.Complete(5, 12)
	x.poll(p, machine.Done, 12)
	x.prints()
	x.live(1)
	x.cancel(p, machine.Done, 0)
	x.live(0)
}

// TestCancelWithin: a frame cancels another one of each outcome; that is freed, whether something runs or not.
func TestCancelWithin(t *testing.T) {
	c := holder(in(api.OpStep, 5, 1, 0))
	c.resume[6].L[0] = 7 // whatever comes out
	c.resume[7] = in(api.OpCancel, 1, 0, 0)
	x := testerOf(t, of([]co{c, begunOf()}), much)
	for way, want := range [][]api.Event{
		{printed(0, 1), printed(0, 0)},
		{printed(0, 1), printed(0, 55)},
		{printed(0, 1), stepped(0, yields), printed(0, 2), printed(0, 1)},
		{printed(0, 1), printed(0, 2), printed(0, 1)},
	} {
		p := x.start(0, way)
		x.poll(p, machine.Done, 9)
		x.told(want...)
		x.live(1)
		x.cancel(p, machine.Done, 0)
		x.told()
	}
}

// TestCancelEverywhere: what cancels, and what is called, may cancel and call, too.
func TestCancelEverywhere(t *testing.T) {
	x, p := begun(t, []co{
		{words: 4, resume: join(fun{in(api.OpStart, 1, 1, 0), in(api.OpFrame, 2, 3, 0), in(api.OpStore, 2, 1, 0)}, result(0)),
			cancel: fun{in(api.OpFrame, 2, 3, 0), in(api.OpCall, 2, 4, 0), set(1, 12), tell(1), end()}},
		{cancel: fun{set(1, 10), in(api.OpCall, 1, 5, 0), end()}},
	}, fun{in(api.OpLoad, 1, 0, 0), in(api.OpCancel, 1, 0, 0), set(0, 11), in(api.OpCall, 0, 5, 0), end()}, fun{tell(0), end()})
	q := x.start(0)
	x.poll(p, machine.Done, 0)
	x.cancel(p, machine.Done, 0) // it is done: nothing runs
	x.told()
	x.live(2)
	x.cancel(q, machine.Bad, int(api.ErrInit)) // its word 3 was never stored
	x.live(2)
}

// TestCancelCalls: the functions of the frame above run, each behind the one that it waits for.
func TestCancelCalls(t *testing.T) {
	x, p := begun(t, []co{
		{words: 4, resume: fun{in(api.OpStart, 1, 1, 0), in(api.OpFrame, 2, 3, 0), in(api.OpStore, 2, 1, 0), set(3, 1), in(api.OpYield, 3, 0, 0), back()},
			cancel: fun{in(api.OpFrame, 2, 3, 0), in(api.OpCall, 2, 4, 0), set(1, 12), tell(1), end()}},
		{cancel: fun{set(1, 10), in(api.OpCall, 1, 5, 0), end()}},
	}, fun{in(api.OpLoad, 1, 0, 0), in(api.OpCancel, 1, 0, 0), set(0, 11), in(api.OpCall, 0, 5, 0), end()}, fun{tell(0), end()})
	x.poll(p, machine.Yielded, 1)
	x.live(2)
	x.cancel(p, machine.Done, 0)
	x.prints(10, 11, 12)
	x.live(0)
}

// marked is a machine with a frame whose word was changed by another one: coroutine 0 stores at the word of its argument, of the frame 1, what its second argument tells; coroutine 2 an address.
func marked(t *testing.T, word int, w api.Word) (tester, api.Word) {
	t.Helper()
	put := set(3, w.N)
	if w.Ptr {
		put = in(api.OpFrame, 3, 0, 0)
	}
	x := testerOf(t, of([]co{
		{words: 5, resume: fun{in(api.OpStart, 1, 1, 0), in(api.OpOff, 2, 1, word), put, in(api.OpStore, 2, 3, 0), set(4, 5), in(api.OpYield, 4, 0, 0), back()}},
		{words: 5, resume: join(fun{set(1, 1), tell(1)}, result(31)), cancel: fun{set(1, 2), tell(1), end()}},
	}), much)
	x.poll(x.start(0), machine.Yielded, 5)
	x.live(2)
	return x, ptr(2, 0)
}

// TestStates: a state of -1 is done, -2 aborted, any other one goes on; what is below 0 cancels nothing.
func TestStates(t *testing.T) {
	for _, n := range []int{0, 1, 2, 1000, -1, -2, -3, -1000} {
		x, p := marked(t, api.FrameState, num(n))
		switch n {
		case api.StateDone:
			x.bad(p, api.ErrInit) // it has no result
			x.prints()
		case api.StateAborted:
			x.poll(p, machine.Aborted, 0)
			x.prints()
		default:
			x.poll(p, machine.Done, 31)
			x.prints(1)
		}
		x, p = marked(t, api.FrameState, num(n))
		x.cancel(p, machine.Done, 0)
		if n < 0 {
			x.prints()
		} else {
			x.prints(2)
		}
		x.live(1)
		x.bad(p, api.ErrFreed)
	}
}

// TestLooksFirst: word 0, then word 2, must be numbers, and that a coroutine's, whatever is done with the frame, and whatever its state is.
func TestLooksFirst(t *testing.T) {
	for _, y := range []struct {
		word int
		w    api.Word
		err  api.Errno
	}{
		{api.FrameState, ptr(1, 0), api.ErrKind},
		{api.FrameCo, ptr(1, 0), api.ErrKind},
		{api.FrameCo, num(2), api.ErrCode},
		{api.FrameCo, num(-1), api.ErrCode},
	} {
		x, p := marked(t, y.word, y.w)
		x.bad(p, y.err)
		x.cancel(p, machine.Bad, int(y.err))
		x.told()
		x.live(2)
	}
}

// TestLooksAtAll makes words 0 and 2 wrong in all ways at once: word 0 is told first, and word 2 of a frame that is at its end, too.
func TestLooksAtAll(t *testing.T) {
	lay := func(word int, w api.Word) fun { // of an allocation of 3 words at register 1
		switch {
		case w == num(-77): // never stored
			return nil
		case w.Ptr:
			return fun{in(api.OpOff, 2, 1, word), in(api.OpStore, 2, 1, 0)}
		}
		return fun{in(api.OpOff, 2, 1, word), set(3, w.N), in(api.OpStore, 2, 3, 0)}
	}
	none := num(-77)
	for _, y := range []struct {
		state, co api.Word
		err       api.Errno
	}{
		{none, none, api.ErrInit}, {none, ptr(1, 0), api.ErrInit}, {none, num(9), api.ErrInit}, {none, num(0), api.ErrInit},
		{ptr(1, 0), none, api.ErrKind}, {ptr(1, 0), ptr(1, 0), api.ErrKind}, {ptr(1, 0), num(9), api.ErrKind}, {ptr(1, 0), num(0), api.ErrKind},
		{num(0), none, api.ErrInit}, {num(-1), none, api.ErrInit}, {num(-2), none, api.ErrInit},
		{num(0), ptr(1, 0), api.ErrKind}, {num(-1), ptr(1, 0), api.ErrKind}, {num(-2), ptr(1, 0), api.ErrKind},
		{num(0), num(2), api.ErrCode}, {num(-1), num(2), api.ErrCode}, {num(-2), num(-1), api.ErrCode}, {num(-5), num(2), api.ErrCode},
	} {
		for _, x := range []api.Ins{in(api.OpPoll, 1, 0, 0, 0), in(api.OpStep, 4, 1, 0, 0), in(api.OpCancel, 1, 0, 0), set(4, 4)} {
			body := join(fun{in(api.OpAlloc, 1, 0, 3)}, lay(0, y.state), lay(2, y.co), fun{x, set(4, 5), in(api.OpYield, 4, 0, 0), back()})
			m, p := begun(t, []co{{resume: body, cancel: fun{set(1, 1), tell(1), end()}}, {}})
			if x.Op != api.OpConst {
				m.bad(p, y.err)
				continue
			}
			m.poll(p, machine.Yielded, 5)
			m.bad(ptr(2, 0), y.err)
			m.cancel(ptr(2, 0), machine.Bad, int(y.err))
			m.told()
		}
	}
}

// TestWithin: a frame may be at any address where its words stand; it can't be freed there.
func TestWithin(t *testing.T) {
	body := fun{in(api.OpAlloc, 1, 0, 5), in(api.OpOff, 2, 1, 1), set(3, 0), in(api.OpStore, 2, 3, 0), in(api.OpOff, 4, 2, 2), set(3, 1), in(api.OpStore, 4, 3, 0), in(api.OpYield, 3, 0, 0), back()}
	x, p := begun(t, []co{{resume: body}, {resume: result(6), cancel: fun{set(1, 2), tell(1), end()}}})
	x.poll(p, machine.Yielded, 1)
	x.poll(ptr(2, 1), machine.Done, 6)
	x.poll(ptr(2, 1), machine.Done, 6)
	x.cancel(ptr(2, 1), machine.Bad, int(api.ErrRange))
	x.told()
	x.poll(p, machine.Yielded, 1)
	x.cancel(ptr(3, 1), machine.Bad, int(api.ErrRange))
	x.prints(2)
}

// TestResults: what is done must have a number as its result.
func TestResults(t *testing.T) {
	x, p := begun(t, []co{{resume: fun{back()}}})
	x.bad(p, api.ErrInit)
	x.bad(p, api.ErrInit)
	x.cancel(p, machine.Done, 0) // it is done all the same
	x, p = begun(t, []co{{resume: fun{in(api.OpFrame, 1, 1, 0), in(api.OpStore, 1, 1, 0), back()}}})
	x.bad(p, api.ErrKind)
	x.bad(p, api.ErrKind)
	// what polls it doesn't ask for it
	x, p = begun(t, []co{{resume: join(fun{in(api.OpStart, 1, 1, 0), in(api.OpPoll, 1, 0, 0, 0), in(api.OpStep, 2, 1, 0, 0), tell(2)}, result(2))}, {}})
	x.poll(p, machine.Done, 2)
	x.prints(0)
}

// TestFreesItself: a frame that frees what it runs in, or what waits for it, runs on, till it needs that.
func TestFreesItself(t *testing.T) {
	free := fun{in(api.OpFrame, 1, 0, 0), in(api.OpFree, 1, 0, 0), set(2, 4), tell(2)}
	for _, last := range []api.Ins{back(), abort()} {
		x, p := begun(t, []co{{resume: join(free, fun{last})}})
		x.bad(p, api.ErrFreed)
		x.prints(4)
		x.live(0)
	}
	x, p := begun(t, []co{{resume: join(free, fun{in(api.OpYield, 2, 0, 0), back()})}})
	x.poll(p, machine.Yielded, 4)
	x.bad(p, api.ErrFreed)
	x, p = begun(t, []co{{cancel: join(free, fun{end()})}})
	x.cancel(p, machine.Bad, int(api.ErrFreed))
	x.prints(4)
	x, p = begun(t, []co{{resume: fun{in(api.OpFrame, 1, 0, 0), in(api.OpCancel, 1, 0, 0), set(2, 4), tell(2), back()}, cancel: fun{set(2, 3), tell(2), end()}}})
	x.bad(p, api.ErrFreed)
	x.prints(3, 4)
}

// TestPollsItself: a frame that runs is one that is not at its end; it runs anew within itself.
func TestPollsItself(t *testing.T) {
	x, p := begun(t, []co{{words: 4, resume: join(dispatch(3, 11),
		state(1), fun{in(api.OpFrame, 1, 0, 0), in(api.OpStep, 2, 1, 0, 11), tell(2), in(api.OpYield, 2, 0, 0), back()}, // 3
		result(8), // 11
	)}})
	x.poll(p, machine.Yielded, 0)
	x.prints(0)
	x.poll(p, machine.Done, 8)
	x, p = begun(t, []co{{resume: fun{in(api.OpFrame, 1, 0, 0), in(api.OpPoll, 1, 0, 0, 0), back()}}})
	r, left := x.m.Poll(p, 0, 1<<17)
	x.came("polls itself without end", r, machine.Fuel, 0)
	if left != 0 {
		t.Errorf("%d is left", left)
	}
}

// TestDeep: calls and polls may be nested deeply.
func TestDeep(t *testing.T) {
	const deep = 1 << 16
	x := testerOf(t, of([]co{{words: 3, resume: fun{set(1, deep), in(api.OpCall, 1, 4, 0), in(api.OpYield, 1, 0, 0), back()}}, {words: 4, args: 1, resume: fun{
		in(api.OpFrame, 1, 3, 0), in(api.OpLoad, 2, 1, 0), in(api.OpIf, 2, 0, 0, 4), in(api.OpYield, 2, 0, 0),
		set(3, 1), in(api.OpSub, 2, 2, 3, 10), in(api.OpStore, 1, 2, 0), in(api.OpFrame, 4, 0, 0), in(api.OpPoll, 4, 0, 0, 10), set(2, 9), back(),
	}}}, fun{in(api.OpIf, 0, 0, 0, 3), tell(0), end(), set(1, 1), in(api.OpSub, 0, 0, 1, 6), in(api.OpCall, 0, 4, 0), end()}), much)
	r, left := x.m.Poll(x.start(0), 0, 10*deep)
	x.came("nested calls", r, machine.Yielded, deep)
	if want := 10*deep - 3 - 5*deep - 3; left != want {
		t.Errorf("%d is left, want %d", left, want)
	}
	x.prints(0)
	r, left = x.m.Poll(x.start(1, deep), 0, 10*deep)
	x.came("nested polls", r, machine.Yielded, 0)
	if want := 10*deep - 8*deep - 4; left != want {
		t.Errorf("%d is left, want %d", left, want)
	}
}
