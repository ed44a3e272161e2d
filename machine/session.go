package machine

import (
	"cocoon/api"
	"cocoon/mem"
)

// on is how something came out that is not at its end yet: no call answers it.
const on Kind = -1

// stop is how all comes out by an error; without one it goes on.
func stop(err api.Errno) Result {
	switch err {
	case api.OK:
		return Result{Kind: on}
	case api.ErrMemory:
		return Result{Kind: Memory}
	}
	return Result{Kind: Bad, N: int(err)}
}

// run is a function that runs.
type run struct {
	up        *run // whose last instruction waits for this one
	fun       []api.Ins
	next      int      // the instruction that comes next
	frame     api.Word // a function that is called has none
	registers [api.MaxRegs]api.Word
}

// session is one Poll, or Cancel. Its runs stand in a list rather than on Go's stack, as that is left without return where it is too small.
type session struct {
	*Machine
	task int
	fuel int
	top  *run // the one that executes; nil when the first one is at its end
}

func (s *session) begin(fun int, frame api.Word) {
	s.top = &run{up: s.top, fun: s.program.Funs[fun], frame: frame}
}

// leave ends the run that executes: out is for what waits for it.
func (s *session) leave(out Result) Result {
	s.top = s.top.up
	return out
}

// through goes on till the first run came out, or all is stopped.
func (s *session) through(out Result) Result {
	for {
		switch out.Kind {
		case on:
			out = s.step()
		case Fuel, Memory, Bad:
			return out
		default:
			if s.top == nil {
				return out
			}
			out = s.settle(out)
		}
	}
}

// step executes the next instruction.
func (s *session) step() Result {
	if s.fuel <= 0 {
		return Result{Kind: Fuel}
	}
	s.fuel--
	x := s.top.fun[s.top.next]
	s.top.next++
	switch x.Op {
	case api.OpConst, api.OpFrame, api.OpOff, api.OpLoad, api.OpAlloc, api.OpStart:
		return s.set(x)
	case api.OpStore, api.OpCopy, api.OpMove, api.OpClear, api.OpFree:
		return stop(s.change(x))
	case api.OpAdd, api.OpSub, api.OpMul, api.OpLess, api.OpSame:
		return s.top.reckon(x)
	case api.OpJump, api.OpIf, api.OpTable:
		return stop(s.top.turn(x))
	case api.OpPrint, api.OpDrop, api.OpYield:
		return s.tell(x)
	case api.OpWait:
		return s.wait(x)
	case api.OpPoll, api.OpStep, api.OpCancel, api.OpCall:
		return s.enter(x)
	}
	return s.end(x)
}

// set sets an instruction's register to a word.
func (s *session) set(x api.Ins) Result {
	w, err := s.word(x)
	s.top.registers[x.A] = w
	return stop(err)
}

func (s *session) word(x api.Ins) (api.Word, api.Errno) {
	r := &s.top.registers
	switch x.Op {
	case api.OpFrame:
		return mem.Off(s.top.frame, x.B)
	case api.OpOff:
		return mem.Off(r[x.B], x.C)
	case api.OpLoad:
		return s.memory.Load(r[x.B])
	case api.OpAlloc:
		return s.memory.Alloc(x.C)
	case api.OpStart:
		return s.frame(x.B)
	}
	return api.Word{N: x.B}, api.OK
}

// change does what changes the memory alone.
func (s *session) change(x api.Ins) api.Errno {
	r := &s.top.registers
	switch x.Op {
	case api.OpStore:
		return s.memory.Store(r[x.A], r[x.B])
	case api.OpCopy:
		return s.memory.Copy(r[x.A], r[x.B], x.C)
	case api.OpMove:
		if err := s.memory.Copy(r[x.A], r[x.B], x.C); err != api.OK {
			return err
		}
		return s.memory.Clear(r[x.B], x.C)
	case api.OpClear:
		return s.memory.Clear(r[x.A], x.C)
	}
	return s.memory.Free(r[x.A])
}

// reckon sets a register to what comes of two others, or goes on at the label.
func (r *run) reckon(x api.Ins) Result {
	b, c := r.registers[x.B], r.registers[x.C]
	if err := numbers(b, c); err != api.OK {
		return stop(err)
	}
	if n, exact := reckoned(x.Op, b.N, c.N); exact {
		r.registers[x.A] = api.Word{N: n}
	} else {
		r.next = x.L[0]
	}
	return Result{Kind: on}
}

// turn goes on elsewhere.
func (r *run) turn(x api.Ins) api.Errno {
	w := r.registers[x.A]
	if x.Op == api.OpJump {
		r.next = x.L[0]
		return api.OK
	}
	if err := numbers(w); err != api.OK {
		return err
	}
	switch {
	case x.Op == api.OpIf && w.N != 0:
		r.next = x.L[0]
	case x.Op == api.OpTable && (w.N < 0 || w.N >= len(x.L)):
		return api.ErrTable
	case x.Op == api.OpTable:
		r.next = x.L[w.N]
	}
	return api.OK
}

// tell tells a number, or hands it out.
func (s *session) tell(x api.Ins) Result {
	w := s.top.registers[x.A]
	if err := numbers(w); err != api.OK {
		return stop(err)
	}
	switch x.Op {
	case api.OpYield:
		return s.leave(Result{Kind: Yielded, N: w.N})
	case api.OpDrop:
		s.note(api.Event{Kind: api.EvDrop, A: x.B, N: w.N})
	default:
		s.note(api.Event{Kind: api.EvPrint, N: w.N})
	}
	return Result{Kind: on}
}

func (s *session) note(e api.Event) {
	e.Task = s.task
	s.told = append(s.told, e)
}

func (s *session) wait(x api.Ins) Result {
	event := s.top.registers[x.B]
	if err := numbers(event); err != api.OK {
		return stop(err)
	}
	n, ok := s.events[event.N]
	if !ok {
		return s.leave(Result{Kind: Pending, N: event.N})
	}
	s.top.registers[x.A] = api.Word{N: n}
	return Result{Kind: on}
}

// enter begins what an instruction has to wait for.
func (s *session) enter(x api.Ins) Result {
	r := &s.top.registers
	switch x.Op {
	case api.OpPoll:
		return s.goOn(r[x.A])
	case api.OpStep:
		return s.goOn(r[x.B])
	case api.OpCancel:
		return s.undo(r[x.A])
	}
	s.begin(x.B, api.Word{})
	s.top.registers[0] = r[x.A]
	return Result{Kind: on}
}

// goOn goes on with a frame.
func (s *session) goOn(frame api.Word) Result {
	state, co, err := s.look(frame)
	switch {
	case err != api.OK:
		return stop(err)
	case state == api.StateDone:
		return Result{Kind: Done}
	case state == api.StateAborted:
		return Result{Kind: Aborted}
	}
	s.begin(co.Resume, frame)
	return Result{Kind: on}
}

// undo runs what cancels a frame; whoever asked frees that when it came out as Done.
func (s *session) undo(frame api.Word) Result {
	state, co, err := s.look(frame)
	switch {
	case err != api.OK:
		return stop(err)
	case state < 0:
		return Result{Kind: Done}
	}
	s.begin(co.Cancel, frame)
	return Result{Kind: on}
}

// settle hands how something came out to the instruction that waits for it.
func (s *session) settle(out Result) Result {
	r := s.top
	x := r.fun[r.next-1]
	switch {
	case x.Op == api.OpCall:
		return Result{Kind: on}
	case x.Op == api.OpCancel:
		return stop(s.memory.Free(r.registers[x.A]))
	case out.Kind == Aborted:
		r.next = x.L[0]
		return Result{Kind: on}
	case x.Op == api.OpStep:
		return s.stepped(x, out)
	case out.Kind == Done:
		return Result{Kind: on}
	}
	return s.leave(out) // what polls is suspended with what it polled
}

func (s *session) stepped(x api.Ins, out Result) Result {
	more := 1
	switch out.Kind {
	case Done:
		more = 0
	case Yielded:
		s.note(api.Event{Kind: api.EvStep, N: out.N})
	}
	s.top.registers[x.A] = api.Word{N: more}
	return Result{Kind: on}
}

// end ends a run.
func (s *session) end(x api.Ins) Result {
	out, state := Result{Kind: Done}, api.StateDone
	switch x.Op {
	case api.OpEnd:
		return s.leave(out)
	case api.OpAbort:
		out, state = Result{Kind: Aborted}, api.StateAborted
	}
	if err := s.memory.Store(s.top.frame, api.Word{N: state}); err != api.OK {
		return stop(err)
	}
	return s.leave(out)
}
