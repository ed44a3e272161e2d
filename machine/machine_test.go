package machine_test

import (
	"math"
	"slices"
	"testing"

	"cocoon/api"
	"cocoon/code"
	"cocoon/machine"
)

// TestNew: a machine is one of code that may be run, whatever its room.
func TestNew(t *testing.T) {
	right := of([]co{{}})
	wrong := of([]co{{}})
	wrong.Funs[0] = nil
	for _, words := range []int{math.MinInt, -1, 0, 1, much, api.MaxWords, math.MaxInt} {
		if m, err := machine.New(right, words); m == nil || err != api.OK {
			t.Errorf("New(right, %d): %v, %v", words, m, err)
		}
		if m, err := machine.New(api.Program{}, words); m == nil || err != api.OK {
			t.Errorf("New(nothing, %d): %v, %v", words, m, err)
		}
		for _, p := range []api.Program{wrong, {Funs: [][]api.Ins{{tell(1), end()}}}, {Cos: []api.Co{{Words: 3}}}} {
			if m, err := machine.New(p, words); m != nil || err != api.ErrCode {
				t.Errorf("New(wrong, %d): %v, %v, want nil and ErrCode", words, m, err)
			}
		}
	}
}

// TestStart: a frame's words are the state, the coroutine, and the arguments; no other one was stored.
func TestStart(t *testing.T) {
	look := func(n int) fun { // tells word n
		return fun{in(api.OpFrame, 1, n, 0), in(api.OpLoad, 2, 1, 0), tell(2)}
	}
	c := co{words: 6, args: 2, resume: join(look(0), look(2), look(3), look(4), look(5))}
	c.resume = append(c.resume, back())
	x := testerOf(t, of([]co{{}, c, {words: 6}}), 18)
	p := x.start(1, -7, math.MaxInt)
	if p != ptr(1, 0) {
		t.Errorf("Start: %v", p)
	}
	x.live(1)
	x.bad(p, api.ErrInit) // word 5 is behind the arguments
	x.prints(0, 1, -7, math.MaxInt)
	if q := x.start(2); q != ptr(2, 0) {
		t.Errorf("Start: %v", q)
	}
	x.bad(ptr(2, 0), api.ErrInit) // word 1 is what it returns
	if q := x.start(1, 0, 0); q != ptr(3, 0) {
		t.Errorf("Start: %v", q)
	}
	x.live(3)
}

// TestStartResult: word 1 was not stored.
func TestStartResult(t *testing.T) {
	x, p := begun(t, []co{{resume: fun{in(api.OpFrame, 1, api.FrameResult, 0), in(api.OpLoad, 2, 1, 0), back()}}})
	x.bad(p, api.ErrInit)
}

// starts fails, if a start of something comes out other than is wanted, or tells a frame.
func (t tester) starts(co int, args []int, kind machine.Kind, n int) {
	t.Helper()
	live := t.m.Live()
	p, r := t.m.Start(co, args)
	if p != (api.Word{}) {
		t.Errorf("Start(%d, %v): %v, want a zero word", co, args, p)
	}
	t.came("Start", r, kind, n)
	t.live(live)
}

func TestStartErrors(t *testing.T) {
	x := testerOf(t, of([]co{{words: 5, args: 2}, {words: 4}}), 9)
	arg := int(api.ErrArg)
	for _, c := range []int{-1, 2, math.MaxInt, math.MinInt} {
		x.starts(c, nil, machine.Bad, arg)
		x.starts(c, []int{1, 2}, machine.Bad, arg)
	}
	for _, args := range [][]int{nil, {}, {1}, {1, 2, 3}, make([]int, 1000)} {
		x.starts(0, args, machine.Bad, arg)
	}
	x.starts(1, []int{1}, machine.Bad, arg)
	x.start(0, 1, 2)
	x.starts(0, []int{1, 2}, machine.Memory, 0)
	x.starts(0, []int{1}, machine.Bad, arg) // that is looked at first
	if p := x.start(1); p != ptr(2, 0) {
		t.Errorf("Start: %v: what was refused took a number", p)
	}
	x.starts(1, nil, machine.Memory, 0)
	x.starts(2, nil, machine.Bad, arg)
	testerOf(t, of([]co{{words: 3}}), 2).starts(0, nil, machine.Memory, 0)
	testerOf(t, of([]co{{words: 3}}), -5).starts(0, nil, machine.Memory, 0)
	testerOf(t, of([]co{{words: 3}}), 3).start(0)
	testerOf(t, of([]co{{words: api.MaxWords}}), math.MaxInt).start(0)
	testerOf(t, of([]co{{words: api.MaxWords}}), api.MaxWords-1).starts(0, nil, machine.Memory, 0)
}

// waits is a coroutine that tells what the event brought that is its argument, again and again.
func waits() co {
	return co{words: 4, args: 1, resume: fun{
		in(api.OpFrame, 1, 3, 0), in(api.OpLoad, 2, 1, 0), in(api.OpWait, 3, 2, 0), tell(3), in(api.OpYield, 3, 0, 0), back(),
	}}
}

// TestComplete: what an event brought first stays, whatever its number is.
func TestComplete(t *testing.T) {
	x := testerOf(t, of([]co{waits()}), much)
	for _, event := range []int{0, 1, -1, math.MaxInt, math.MinInt} {
		p := x.start(0, event)
		x.poll(p, machine.Pending, event)
		x.poll(p, machine.Pending, event)
		x.told()
		x.m.Complete(event, event/2)
		x.m.Complete(event, 9)
		x.poll(p, machine.Yielded, event/2)
		x.m.Complete(event, 10)
		x.poll(p, machine.Yielded, event/2)
		x.poll(x.start(0, event), machine.Yielded, event/2)
		x.poll(x.start(0, 77), machine.Pending, 77)
		x.prints(event/2, event/2, event/2)
	}
	x.m.Complete(77, 0)
	x.m.Complete(77, 5)
	x.poll(x.start(0, 77), machine.Yielded, 0)
}

// TestTold: what was told is handed out once, as it came, with its task, and may be changed by whom it was handed to.
func TestTold(t *testing.T) {
	x := testerOf(t, of([]co{
		{resume: fun{set(1, 5), tell(1), in(api.OpDrop, 1, 8, 0), in(api.OpStart, 2, 1, 0), in(api.OpStep, 3, 2, 0, 6), back(), back()},
			cancel: fun{set(1, 6), in(api.OpDrop, 1, 0, 0), tell(1), end()}},
		{resume: fun{set(1, -4), tell(1), in(api.OpYield, 1, 0, 0), back()}},
	}), much)
	x.told()
	p := x.start(0)
	x.m.Poll(p, 3, much)
	want := []api.Event{printed(3, 5), dropped(3, 8, 5), printed(3, -4), stepped(3, -4)}
	first := x.m.Told()
	if !slices.Equal(first, want) {
		t.Errorf("Told: %v, want %v", first, want)
	}
	x.told()
	q := x.start(0)
	x.m.Poll(q, -1, 3)
	x.m.Cancel(q, math.MinInt, much)
	if !slices.Equal(first, want) {
		t.Error("what was told before is changed")
	}
	for i := range first {
		first[i] = api.Event{Kind: api.EvBad}
	}
	x.told(printed(-1, 5), dropped(-1, 8, 5), dropped(math.MinInt, 0, 6), printed(math.MinInt, 6))
	x.told()
}

// TestLive: as many allocations as the memory has.
func TestLive(t *testing.T) {
	x := testerOf(t, of([]co{{resume: fun{in(api.OpAlloc, 1, 0, 2), in(api.OpAlloc, 2, 0, 0), in(api.OpFree, 1, 0, 0), set(3, 1), in(api.OpYield, 3, 0, 0), back()}}}), much)
	x.live(0)
	p, q := x.start(0), x.start(0)
	x.live(2)
	x.poll(p, machine.Yielded, 1)
	x.live(3)
	x.poll(q, machine.Yielded, 1)
	x.live(4)
	x.cancel(p, machine.Done, 0)
	x.live(3)
}

// TestKeepsItsCode: a machine's code is as it was handed in, whatever becomes of that.
func TestKeepsItsCode(t *testing.T) {
	p := of([]co{{words: 4, resume: fun{in(api.OpJump, 0, 0, 0, 2), back(), set(1, 7), in(api.OpCall, 1, 2, 0), in(api.OpYield, 1, 0, 0), back()}}}, fun{tell(0), end()})
	before := code.Text(p)
	x := testerOf(t, p, much)
	f := x.start(0)
	x.poll(f, machine.Yielded, 7)
	if code.Text(p) != before {
		t.Error("the code that was handed in is changed")
	}
	p.Funs[0][0].L[0] = 900
	p.Funs[0][2].B = 8
	p.Funs[2] = nil
	p.Cos[0].Resume, p.Cos[0].Words = 99, -1
	x.poll(f, machine.Yielded, 7)
	x.poll(x.start(0), machine.Yielded, 7)
	x.prints(7, 7, 7)
}

// TestLeavesArguments: a frame's arguments are its own.
func TestLeavesArguments(t *testing.T) {
	x := testerOf(t, of([]co{waits()}), much)
	args := []int{4}
	p, _ := x.m.Start(0, args)
	args[0] = 5
	x.poll(p, machine.Pending, 4)
}

// TestApart: two machines of the same code, on which the same is done, answer the same, and know nothing of each other.
func TestApart(t *testing.T) {
	c := waits()
	p := of([]co{c})
	a, b := testerOf(t, p, 8), testerOf(t, p, 8)
	f := a.start(0, 3)
	b.live(0)
	b.bad(f, api.ErrRange)
	if g := b.start(0, 4); g != f {
		t.Errorf("the other one's first frame: %v, want %v", g, f)
	}
	a.m.Complete(3, 1)
	a.m.Complete(4, 2)
	a.poll(f, machine.Yielded, 1)
	b.poll(f, machine.Pending, 4)
	b.told()
	b.m.Complete(4, 30)
	b.poll(f, machine.Yielded, 30)
	a.prints(1)
	b.prints(30)
	a.cancel(f, machine.Done, 0)
	b.live(1)
	b.poll(f, machine.Yielded, 30)
	a.bad(f, api.ErrFreed)
}

// TestWrongFrames: no call needs a frame that there is.
func TestWrongFrames(t *testing.T) {
	x := testerOf(t, of([]co{{words: 4}, {resume: fun{in(api.OpAlloc, 1, 0, 5), back()}}}), much)
	x.start(0)
	x.start(0)
	x.cancel(ptr(2, 0), machine.Done, 0)
	x.start(1)
	x.bad(ptr(3, 0), api.ErrInit) // it returned nothing, and allocated 4
	for _, y := range []struct {
		p   api.Word
		err api.Errno
	}{
		{api.Word{}, api.ErrKind}, {num(1), api.ErrKind}, {api.Word{A: 1}, api.ErrKind},
		{ptr(0, 0), api.ErrRange}, {ptr(-1, 0), api.ErrRange}, {ptr(5, 0), api.ErrRange}, {ptr(math.MaxInt, 0), api.ErrRange},
		{ptr(2, 0), api.ErrFreed}, {ptr(2, 9), api.ErrFreed},
		{ptr(1, -1), api.ErrRange}, {ptr(1, 4), api.ErrRange}, {ptr(1, math.MinInt), api.ErrRange}, {ptr(1, math.MaxInt), api.ErrRange},
		{ptr(1, 1), api.ErrInit}, {ptr(1, 2), api.ErrRange}, {ptr(1, 3), api.ErrInit}, {ptr(4, 0), api.ErrInit},
	} {
		for _, fuel := range []int{0, 1, much, math.MinInt, math.MaxInt} {
			for _, call := range []func(api.Word, int, int) (machine.Result, int){x.m.Poll, x.m.Cancel} {
				r, left := call(y.p, 1, fuel)
				x.came("a frame that is none", r, machine.Bad, int(y.err))
				if left != fuel {
					t.Errorf("fuel %d: %d is left", fuel, left)
				}
			}
		}
	}
	x.live(3)
	x.told()
}

// TestNoMachine: a machine that New did not make is one without code and room.
func TestNoMachine(t *testing.T) {
	for _, m := range []*machine.Machine{nil, {}} {
		x := tester{t, m}
		x.starts(0, nil, machine.Bad, int(api.ErrArg))
		x.bad(num(0), api.ErrKind)
		x.bad(ptr(1, 0), api.ErrRange)
		x.cancel(num(0), machine.Bad, int(api.ErrKind))
		x.cancel(ptr(1, 0), machine.Bad, int(api.ErrRange))
		m.Complete(1, 2)
		x.told()
		x.live(0)
	}
}
