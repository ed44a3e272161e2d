package machine_test

import (
	"math"
	"slices"
	"testing"

	"cocoon/api"
	"cocoon/machine"
)

// spends fails, if a call with that fuel comes out other than is wanted, or leaves other fuel.
func (t tester) spends(fuel int, call func(api.Word, int, int) (machine.Result, int), p api.Word, kind machine.Kind, n, left int) {
	t.Helper()
	r, l := call(p, 0, fuel)
	t.came("with fuel", r, kind, n)
	if l != left {
		t.Errorf("of %d fuel %d is left, want %d", fuel, l, left)
	}
}

// TestFuel: each instruction takes one unit, of what is called, polled, stepped and cancelled, too; what is looked at, told and freed takes none.
func TestFuel(t *testing.T) {
	cos := []co{
		{words: 4, resume: join(
			fun{set(1, 1), tell(1), in(api.OpCall, 1, 4, 0), in(api.OpStart, 2, 1, 0), in(api.OpStep, 3, 2, 0, 99), in(api.OpPoll, 2, 0, 0, 99), in(api.OpCancel, 2, 0, 0)},
			fun{in(api.OpStart, 2, 1, 0), in(api.OpCancel, 2, 0, 0), set(1, 5), tell(1)},
			result(9),
		), cancel: fun{set(1, 6), tell(1), end()}},
		{resume: fun{set(1, 2), tell(1), back()}, cancel: fun{set(1, 3), tell(1), end()}},
	}
	for i := range cos[0].resume {
		if l := cos[0].resume[i].L; len(l) == 1 {
			l[0] = 0
		}
	}
	called := fun{set(0, 4), tell(0), end()}
	all := []int{1, 4, 2, 3, 5} // what is told
	const need = 3 + 3 + 2 + 3 + 1 + 1 + 2 + 3 + 2 + 4
	for fuel := -3; fuel < need+4; fuel++ {
		x, p := begun(t, cos, called)
		switch {
		case fuel <= 0:
			x.spends(fuel, x.m.Poll, p, machine.Fuel, 0, fuel)
			x.prints()
		case fuel < need:
			x.spends(fuel, x.m.Poll, p, machine.Fuel, 0, 0)
			if told := x.m.Told(); len(told) > 5 || len(told) < 5 && fuel >= need-4 {
				t.Errorf("with %d fuel told %v", fuel, told)
			}
		default:
			x.spends(fuel, x.m.Poll, p, machine.Done, 9, fuel-need)
			x.prints(all...)
			x.spends(0, x.m.Poll, p, machine.Done, 9, 0) // it is done at once
			x.spends(-7, x.m.Poll, p, machine.Done, 9, -7)
			x.spends(0, x.m.Cancel, p, machine.Done, 0, 0)
			x.live(0)
		}
	}
	for fuel := -3; fuel < 7; fuel++ {
		x, p := begun(t, cos, called)
		if fuel < 3 {
			x.spends(fuel, x.m.Cancel, p, machine.Fuel, 0, min(fuel, 0))
			x.live(1)
			x.spends(3, x.m.Cancel, p, machine.Done, 0, 0)
		} else {
			x.spends(fuel, x.m.Cancel, p, machine.Done, 0, fuel-3)
		}
		x.live(0)
	}
}

// TestFuelEnds: what comes out otherwise takes its instruction's unit, too.
func TestFuelEnds(t *testing.T) {
	for _, y := range []struct {
		body fun
		kind machine.Kind
		n    int
	}{
		{fun{set(1, 3), in(api.OpYield, 1, 0, 0), back()}, machine.Yielded, 3},
		{fun{set(1, 3), in(api.OpWait, 2, 1, 0), back()}, machine.Pending, 3},
		{fun{set(1, 3), abort()}, machine.Aborted, 0},
		{fun{set(1, 3), in(api.OpFree, 1, 0, 0), back()}, machine.Bad, int(api.ErrKind)},
		{fun{set(1, 3), back()}, machine.Bad, int(api.ErrInit)},
		{fun{set(1, 3), in(api.OpAlloc, 1, 0, api.MaxWords), back()}, machine.Memory, 0},
		{fun{set(1, 3), in(api.OpPoll, 1, 0, 0, 2), back()}, machine.Bad, int(api.ErrKind)},
		{fun{set(1, 3), in(api.OpTable, 1, 0, 0, 2), back()}, machine.Bad, int(api.ErrTable)},
	} {
		for fuel := range 5 {
			x, p := begun(t, []co{{resume: y.body}})
			if fuel < 2 {
				x.spends(fuel, x.m.Poll, p, machine.Fuel, 0, 0)
			} else {
				x.spends(fuel, x.m.Poll, p, y.kind, y.n, fuel-2)
			}
		}
	}
}

// TestNoFuel: without fuel all stops as it is: what was stored stays, and it goes on from its beginning.
func TestNoFuel(t *testing.T) {
	x, p := begun(t, []co{{words: 4, resume: join(dispatch(3, 8), state(1), fun{set(1, 1), tell(1)}, fun{in(api.OpYield, 2, 0, 0), back()})}})
	x.spends(6, x.m.Poll, p, machine.Fuel, 0, 0)
	x.prints()
	x.poll(p, machine.Yielded, 1) // the state was stored: it finds behind that
	x.prints()
	x, p = begun(t, []co{{resume: fun{in(api.OpJump, 0, 0, 0, 0)}}})
	x.spends(much, x.m.Poll, p, machine.Fuel, 0, 0)
	x.spends(math.MinInt, x.m.Poll, p, machine.Fuel, 0, math.MinInt)
}

// TestNoFuelWithin: what is polled stops, too, and what cancels; a frame that is half cancelled is not freed.
func TestNoFuelWithin(t *testing.T) {
	loop := fun{in(api.OpJump, 0, 0, 0, 0)}
	for _, do := range []api.Ins{in(api.OpPoll, 1, 0, 0, 2), in(api.OpStep, 2, 1, 0, 2), in(api.OpCancel, 1, 0, 0), in(api.OpCall, 1, 4, 0)} {
		x, p := begun(t, []co{{resume: fun{in(api.OpStart, 1, 1, 0), do, set(2, 2), tell(2), back()}}, {resume: loop, cancel: loop}}, loop)
		x.spends(50, x.m.Poll, p, machine.Fuel, 0, 0)
		x.told()
		x.live(2)
		x.spends(50, x.m.Cancel, ptr(2, 0), machine.Fuel, 0, 0)
		x.live(2)
	}
}

// TestRoom: a machine with room just enough, and just too little: for a frame, for one that is started, and for words.
func TestRoom(t *testing.T) {
	cos := []co{
		{words: 4, resume: join(fun{set(1, 1), tell(1), in(api.OpStart, 2, 1, 0), tell(1), in(api.OpAlloc, 3, 0, 3), tell(1), in(api.OpFree, 3, 0, 0), in(api.OpAlloc, 3, 0, 0), in(api.OpAlloc, 3, 0, 2)}, result(9))},
		{words: 5},
	}
	for room := -1; room < 15; room++ {
		x := testerOf(t, of(cos), room)
		if room < 4 {
			x.starts(0, nil, machine.Memory, 0)
			continue
		}
		p := x.start(0)
		switch {
		case room < 4+5:
			x.poll(p, machine.Memory, 0)
			x.prints(1)
			x.live(1)
		case room < 4+5+3:
			x.poll(p, machine.Memory, 0)
			x.prints(1, 1)
			x.live(2)
		default:
			x.poll(p, machine.Done, 9)
			x.prints(1, 1, 1)
			x.live(4)
		}
	}
}

// TestRoomWithin: what lacks room within what is polled, stepped, called or cancelled ends all.
func TestRoomWithin(t *testing.T) {
	for _, do := range []api.Ins{in(api.OpPoll, 1, 0, 0, 2), in(api.OpStep, 2, 1, 0, 2), in(api.OpCancel, 1, 0, 0), in(api.OpCall, 1, 4, 0)} {
		much := fun{in(api.OpAlloc, 1, 0, 1000), end()}
		x := testerOf(t, of([]co{
			{resume: fun{in(api.OpStart, 1, 1, 0), do, set(2, 2), tell(2), back()}},
			{resume: fun{in(api.OpAlloc, 1, 0, 1000), back()}, cancel: much},
		}, much), 1005)
		p := x.start(0)
		x.poll(p, machine.Memory, 0)
		x.told()
		x.live(2)
		x.cancel(ptr(2, 0), machine.Memory, 0)
		x.live(2)
	}
}

// TestMoreFuel: with more fuel what was told is told, and what came out comes out, other than that there was none.
func TestMoreFuel(t *testing.T) {
	d := dice(77)
	ended := 0
	for range 300 {
		p := somePrograms(&d)
		var before []api.Event
		for fuel := range 90 {
			x := testerOf(t, p, much)
			r, left := x.m.Poll(x.start(0, 1, 2), 0, fuel)
			told := x.m.Told()
			if len(told) < len(before) || !slices.Equal(told[:len(before)], before) {
				t.Fatalf("with %d fuel: told %v, and %v ahead", fuel, told, before)
			}
			before = told
			if r.Kind == machine.Fuel {
				if left != 0 {
					t.Fatalf("with %d fuel: no fuel, but %d is left", fuel, left)
				}
				continue
			}
			ended++
			for _, more := range []int{1, 2, 1000, math.MaxInt - fuel} {
				y := testerOf(t, p, much)
				r2, left2 := y.m.Poll(y.start(0, 1, 2), 0, fuel+more)
				if r2 != r || left2 != left+more || !slices.Equal(y.m.Told(), told) || y.m.Live() != x.m.Live() {
					t.Fatalf("with %d more fuel: %v, %d, want %v, %d", more, r2, left2, r, left+more)
				}
			}
			break
		}
	}
	if ended < 100 {
		t.Errorf("%d came to an end: too few to tell", ended)
	}
}

// TestMoreRoom: more room changes nothing but that there was none.
func TestMoreRoom(t *testing.T) {
	d := dice(78)
	few, all := 0, 0
	for range 300 {
		p := somePrograms(&d)
		whole := testerOf(t, p, much)
		r, left := whole.m.Poll(whole.start(0, 1, 2), 0, 300)
		told := whole.m.Told()
		for room := frameWords; room < 60; room += 4 {
			x := testerOf(t, p, room)
			r2, left2 := x.m.Poll(x.start(0, 1, 2), 0, 300)
			got := x.m.Told()
			if r2.Kind == machine.Memory {
				few++
				if len(got) > len(told) || !slices.Equal(got, told[:len(got)]) || left2 < left {
					t.Fatalf("with room for %d: told %v, want a beginning of %v", room, got, told)
				}
				continue
			}
			all++
			if r2 != r || left2 != left || !slices.Equal(got, told) {
				t.Fatalf("with room for %d: %v, %d, want %v, %d", room, r2, left2, r, left)
			}
		}
	}
	if few < 100 || all < 100 {
		t.Errorf("%d without room, %d with: too few to tell", few, all)
	}
}
