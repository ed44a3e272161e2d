package machine_test

import (
	"math"
	"math/big"
	"slices"
	"testing"

	"cocoon/api"
	"cocoon/code"
	"cocoon/machine"
	"cocoon/mem"
)

// model runs code as the chapter tells it, each run within the one that waits for it; what stops all is a panic with a Result.
type model struct {
	p      api.Program
	m      *mem.Memory
	events map[int]int
	told   []api.Event
	task   int
	fuel   int
}

func (o *model) must(err api.Errno) {
	switch err {
	case api.OK:
	case api.ErrMemory:
		panic(machine.Result{Kind: machine.Memory})
	default:
		panic(machine.Result{Kind: machine.Bad, N: int(err)})
	}
}

// whole is how all comes out.
func (o *model) whole(do func() machine.Result) (out machine.Result) {
	defer func() {
		if x := recover(); x != nil {
			out = x.(machine.Result)
		}
	}()
	return do()
}

func (o *model) number(w api.Word) int {
	if w.Ptr {
		o.must(api.ErrKind)
	}
	return w.N
}

func (o *model) off(p api.Word, n int) api.Word {
	q, err := mem.Off(p, n)
	o.must(err)
	return q
}

func (o *model) load(p api.Word) api.Word {
	w, err := o.m.Load(p)
	o.must(err)
	return w
}

func (o *model) frame(co int, args []int) api.Word {
	p, err := o.m.Alloc(o.p.Cos[co].Words)
	o.must(err)
	o.must(o.m.Store(p, num(0)))
	o.must(o.m.Store(o.off(p, 2), num(co)))
	for i, n := range args {
		o.must(o.m.Store(o.off(p, 3+i), num(n)))
	}
	return p
}

func (o *model) look(p api.Word) (int, api.Co) {
	state := o.number(o.load(p))
	co := o.number(o.load(o.off(p, 2)))
	if co < 0 || co >= len(o.p.Cos) {
		o.must(api.ErrCode)
	}
	return state, o.p.Cos[co]
}

func (o *model) goOn(p api.Word) machine.Result {
	state, co := o.look(p)
	switch state {
	case -1:
		return machine.Result{Kind: machine.Done}
	case -2:
		return machine.Result{Kind: machine.Aborted}
	}
	return o.exec(co.Resume, p, num(0))
}

func (o *model) cancel(p api.Word) {
	state, co := o.look(p)
	if state >= 0 {
		o.exec(co.Cancel, p, num(0))
	}
	o.must(o.m.Free(p))
}

func (o *model) tell(kind api.EvKind, a, n int) {
	o.told = append(o.told, api.Event{Kind: kind, Task: o.task, A: a, N: n})
}

// exec runs a function up to where it comes out.
func (o *model) exec(fn int, frame, handed api.Word) machine.Result {
	var r [16]api.Word
	r[0] = handed
	for at := 0; ; {
		if o.fuel <= 0 {
			panic(machine.Result{Kind: machine.Fuel})
		}
		o.fuel--
		x := o.p.Funs[fn][at]
		at++
		label := false
		switch x.Op {
		case api.OpYield:
			return machine.Result{Kind: machine.Yielded, N: o.number(r[x.A])}
		case api.OpWait:
			n, ok := o.events[o.number(r[x.B])]
			if !ok {
				return machine.Result{Kind: machine.Pending, N: r[x.B].N}
			}
			r[x.A] = num(n)
		case api.OpPoll:
			out := o.goOn(r[x.A])
			if out.Kind == machine.Yielded || out.Kind == machine.Pending {
				return out
			}
			label = out.Kind == machine.Aborted
		case api.OpStep:
			label = o.step(x, &r)
		case api.OpReturn:
			o.must(o.m.Store(frame, num(-1)))
			return machine.Result{Kind: machine.Done}
		case api.OpAbort:
			o.must(o.m.Store(frame, num(-2)))
			return machine.Result{Kind: machine.Aborted}
		case api.OpEnd:
			return machine.Result{}
		case api.OpTable:
			n := o.number(r[x.A])
			if n < 0 || n >= len(x.L) {
				o.must(api.ErrTable)
			}
			at = x.L[n]
		default:
			label = o.plain(x, &r, frame)
		}
		if label {
			at = x.L[0]
		}
	}
}

// step tells whether it goes on at the label.
func (o *model) step(x api.Ins, r *[16]api.Word) bool {
	out := o.goOn(r[x.B])
	switch out.Kind {
	case machine.Aborted:
		return true
	case machine.Done:
		r[x.A] = num(0)
		return false
	case machine.Yielded:
		o.tell(api.EvStep, 0, out.N)
	}
	r[x.A] = num(1)
	return false
}

// plain does what leaves no function, and tells whether it goes on at the label.
func (o *model) plain(x api.Ins, r *[16]api.Word, frame api.Word) bool {
	switch x.Op {
	case api.OpConst:
		r[x.A] = num(x.B)
	case api.OpFrame:
		r[x.A] = o.off(frame, x.B)
	case api.OpOff:
		r[x.A] = o.off(r[x.B], x.C)
	case api.OpLoad:
		r[x.A] = o.load(r[x.B])
	case api.OpStore:
		o.must(o.m.Store(r[x.A], r[x.B]))
	case api.OpCopy:
		o.must(o.m.Copy(r[x.A], r[x.B], x.C))
	case api.OpMove:
		o.must(o.m.Copy(r[x.A], r[x.B], x.C))
		o.must(o.m.Clear(r[x.B], x.C))
	case api.OpClear:
		o.must(o.m.Clear(r[x.A], x.C))
	case api.OpJump:
		return true
	case api.OpIf:
		return o.number(r[x.A]) != 0
	case api.OpAlloc:
		p, err := o.m.Alloc(x.C)
		o.must(err)
		r[x.A] = p
	case api.OpFree:
		o.must(o.m.Free(r[x.A]))
	case api.OpPrint:
		o.tell(api.EvPrint, 0, o.number(r[x.A]))
	case api.OpDrop:
		o.tell(api.EvDrop, x.B, o.number(r[x.A]))
	case api.OpStart:
		r[x.A] = o.frame(x.B, nil)
	case api.OpCancel:
		o.cancel(r[x.A])
	case api.OpCall:
		o.exec(x.B, api.Word{}, r[x.A])
	default:
		return o.reckon(x, r)
	}
	return false
}

func (o *model) reckon(x api.Ins, r *[16]api.Word) bool {
	b, c := big.NewInt(int64(o.number(r[x.B]))), big.NewInt(int64(o.number(r[x.C])))
	var n big.Int
	switch x.Op {
	case api.OpAdd:
		n.Add(b, c)
	case api.OpSub:
		n.Sub(b, c)
	case api.OpMul:
		n.Mul(b, c)
	case api.OpLess:
		n.SetInt64(map[int]int64{-1: 1}[b.Cmp(c)])
	case api.OpSame:
		n.SetInt64(map[int]int64{0: 1}[b.Cmp(c)])
	}
	if !n.IsInt64() {
		return true
	}
	r[x.A] = num(int(n.Int64()))
	return false
}

// Poll is what a machine's should answer.
func (o *model) Poll(p api.Word, task, fuel int) (machine.Result, int) {
	o.task, o.fuel = task, fuel
	return o.whole(func() machine.Result {
		out := o.goOn(p)
		if out.Kind == machine.Done {
			out.N = o.number(o.load(o.off(p, 1)))
		}
		return out
	}), o.fuel
}

// Cancel is what a machine's should answer.
func (o *model) Cancel(p api.Word, task, fuel int) (machine.Result, int) {
	o.task, o.fuel = task, fuel
	return o.whole(func() machine.Result {
		o.cancel(p)
		return machine.Result{Kind: machine.Done}
	}), o.fuel
}

// Start is what a machine's should answer, of a coroutine and arguments that are right.
func (o *model) Start(co int, args []int) (p api.Word, r machine.Result) {
	r = o.whole(func() machine.Result {
		p = o.frame(co, args)
		return machine.Result{Kind: machine.Done}
	})
	return p, r
}

// dice are numbers one behind the other, always the same ones.
type dice uint64

func (d *dice) roll(n int) int {
	*d = *d*6364136223846793005 + 1442695040888963407
	return int(uint64(*d) >> 33 % uint64(n))
}

func (d *dice) of(l ...int) int { return l[d.roll(len(l))] }

// frameWords is how many words a frame of somePrograms has.
const frameWords = 10

// writer writes a function that is likely to run well for a while: the registers up to 5 are numbers, those up to 11 addresses.
type writer struct {
	*dice
	kind   int // 0: called, 1: goes on, 2: cancels
	pieces int // how many there are; labels are pieces, till the end
}

func (w writer) number() int { return w.likely(w.roll(6), 6+w.roll(6)) }

func (w writer) address() int { return w.likely(6+w.roll(6), w.roll(6)) }

// likely is nearly always the one, else the other.
func (w writer) likely(a, b int) int {
	if w.roll(25) == 0 {
		return b
	}
	return a
}

func (w writer) label() int { return w.roll(w.pieces) }

// base is an address of where words may be.
func (w writer) base(reg int) api.Ins {
	if w.kind == 0 || w.roll(5) == 0 {
		return in(api.OpAlloc, reg, 0, 1+w.roll(3))
	}
	return in(api.OpFrame, reg, w.roll(frameWords), 0)
}

func (w writer) anyNumber() int {
	return w.of(0, 0, 1, 1, 2, 3, 4, -1, math.MaxInt, math.MinInt, math.MaxInt-1)
}

// piece is one that may stand in any function.
func (w writer) piece() fun {
	a, p, q := w.number(), w.address(), w.address()
	switch w.roll(16) {
	case 0:
		return fun{set(a, w.anyNumber())}
	case 1, 2:
		return fun{w.base(p), in(api.OpStore, p, a, 0)}
	case 3:
		return fun{in(api.OpLoad, w.likely(a, p), q, 0)}
	case 4:
		return fun{in(api.OpStore, p, w.likely(a, q), 0)}
	case 5:
		return fun{in(w.somewhere(), p, q, w.roll(3))}
	case 6:
		return fun{in(api.OpOff, p, q, w.roll(2))}
	case 7:
		return fun{in(api.Op(w.of(int(api.OpAdd), int(api.OpSub), int(api.OpMul))), a, w.number(), w.number(), w.label())}
	case 8:
		return fun{in(api.Op(w.of(int(api.OpLess), int(api.OpSame))), a, w.number(), w.number())}
	case 9:
		return fun{in(api.OpIf, a, 0, 0, w.label())}
	case 10:
		return fun{in(api.OpTable, a, 0, 0, w.label(), w.label(), w.label())}
	case 11:
		return fun{in(api.OpAlloc, p, 0, w.roll(3)), in(api.OpFree, w.likely(p, q), 0, 0)}
	case 12:
		return fun{tell(a)}
	case 13:
		return fun{in(api.OpDrop, a, w.roll(4), 0)}
	case 14:
		return fun{in(api.OpCall, w.likely(a, p), 6+w.roll(2), 0)}
	}
	return fun{in(api.OpStart, p, w.roll(3), 0), in(w.within(), p, 0, 0)}
}

func (w writer) somewhere() api.Op {
	return api.Op(w.of(int(api.OpCopy), int(api.OpMove)))
}

// within is what is done with a frame in any function.
func (w writer) within() api.Op {
	return api.Op(w.of(int(api.OpCancel), int(api.OpCancel), int(api.OpFree)))
}

// own is a piece that may stand in one that goes on alone, as piece i.
func (w writer) own(i int) fun {
	a, p := w.number(), w.address()
	keep := fun{set(14, (i+w.roll(2))%w.pieces), in(api.OpFrame, 15, 0, 0), in(api.OpStore, 15, 14, 0)}
	switch w.roll(8) {
	case 0, 1:
		return append(keep, in(api.OpYield, a, 0, 0))
	case 2:
		return append(keep, in(api.OpWait, a, w.number(), 0))
	case 3:
		return fun{in(api.OpStart, p, w.roll(3), 0), in(api.OpPoll, p, 0, 0, w.label())}
	case 4:
		return fun{in(api.OpStart, p, w.roll(3), 0), in(api.OpStep, a, p, 0, w.label()), in(api.OpStep, a, p, 0, w.label()), in(api.OpCancel, p, 0, 0)}
	case 5:
		return fun{in(api.OpPoll, p, 0, 0, w.label())}
	case 6:
		return fun{in(api.OpStep, a, p, 0, w.label())}
	}
	return result(w.anyNumber())
}

// function writes one: all registers, the table of pieces that the state tells, the pieces, and an end.
func (w writer) function() fun {
	var f fun
	for reg := range api.MaxRegs {
		if 6 <= reg && reg < 12 {
			f = append(f, w.base(reg))
		} else if w.kind != 0 || reg > 0 {
			f = append(f, set(reg, w.roll(3)))
		}
	}
	var pieces []fun
	if w.kind == 1 {
		pieces = append(pieces, fun{in(api.OpFrame, 15, 0, 0), in(api.OpLoad, 14, 15, 0), in(api.OpTable, 14, 0, 0)})
		for i := range w.pieces {
			pieces[0][2].L = append(pieces[0][2].L, i)
		}
	}
	head := len(pieces)
	for i := range w.pieces {
		if w.kind == 1 && w.roll(2) == 0 {
			pieces = append(pieces, w.own(i))
		} else {
			pieces = append(pieces, w.piece())
		}
	}
	last := end()
	if w.kind == 1 {
		last.Op = api.Op(w.of(int(api.OpReturn), int(api.OpAbort)))
	}
	return w.laid(f, append(pieces, fun{last}), head)
}

// laid puts pieces behind a function, and makes places of their labels.
func (w writer) laid(f fun, pieces []fun, head int) fun {
	var places []int
	at := len(f)
	for _, p := range pieces {
		places = append(places, at)
		at += len(p)
	}
	for _, p := range pieces {
		for _, x := range p {
			for i := range x.L {
				x.L[i] = places[head+x.L[i]]
			}
			f = append(f, x)
		}
	}
	return f
}

// somePrograms are of three coroutines of two, no, and one argument, and two functions that are called.
func somePrograms(d *dice) api.Program {
	var p api.Program
	write := func(kind int) {
		p.Funs = append(p.Funs, writer{d, kind, 1 + d.roll(8)}.function())
	}
	for i, args := range []int{2, 0, 1} {
		write(1)
		write(2)
		p.Cos = append(p.Cos, api.Co{Resume: 2 * i, Cancel: 2*i + 1, Words: frameWords, Args: args})
	}
	write(0)
	write(0)
	return p
}

// pair is a machine, another one of the same code, and the model that both must be like.
type pair struct {
	*testing.T
	a, b   *machine.Machine
	o      *model
	frames []api.Word
	count  map[machine.Result]int
}

// act does one thing to all three.
func (t *pair) act(d *dice) {
	t.Helper()
	task, fuel := d.roll(5)-1, d.of(0, 1, 20, 50, 90, 200, 1000, 1000, -1)
	p := ptr(d.roll(8), d.roll(8)/7)
	if len(t.frames) > 0 && d.roll(10) > 0 {
		p = t.frames[d.roll(len(t.frames))]
	}
	var r [3]machine.Result
	var w [3]api.Word
	var left [3]int
	switch d.roll(7) {
	case 0:
		co := d.roll(3)
		args := []int{d.roll(9), d.roll(9)}[:t.o.p.Cos[co].Args]
		w[0], r[0] = t.a.Start(co, args)
		w[1], r[1] = t.b.Start(co, args)
		w[2], r[2] = t.o.Start(co, args)
		if w[2].Ptr {
			t.frames = append(t.frames, w[2])
		}
	case 1:
		r[0], left[0] = t.a.Cancel(p, task, fuel)
		r[1], left[1] = t.b.Cancel(p, task, fuel)
		r[2], left[2] = t.o.Cancel(p, task, fuel)
	case 2:
		event, n := d.roll(5), d.roll(100)
		t.a.Complete(event, n)
		t.b.Complete(event, n)
		if _, ok := t.o.events[event]; !ok {
			t.o.events[event] = n
		}
	default:
		r[0], left[0] = t.a.Poll(p, task, fuel)
		r[1], left[1] = t.b.Poll(p, task, fuel)
		r[2], left[2] = t.o.Poll(p, task, fuel)
	}
	t.count[machine.Result{Kind: r[0].Kind, N: map[machine.Kind]int{machine.Bad: r[0].N}[r[0].Kind]}]++
	if r[0] != r[2] || w[0] != w[2] || left[0] != left[2] || r[1] != r[2] || w[1] != w[2] || left[1] != left[2] {
		t.Fatalf("%v, %v, left %v, of the two and the model:\n%s", r, w, left, code.Text(t.o.p))
	}
}

// same fails, if what was told, or is there, is not the same.
func (t *pair) same() {
	t.Helper()
	a, b := t.a.Told(), t.b.Told()
	if !slices.Equal(a, t.o.told) || !slices.Equal(b, t.o.told) {
		t.Fatalf("told %v, %v, want %v:\n%s", a, b, t.o.told, code.Text(t.o.p))
	}
	t.o.told = nil
	if t.a.Live() != t.o.m.Live() || t.b.Live() != t.o.m.Live() {
		t.Fatalf("live: %d, %d, want %d", t.a.Live(), t.b.Live(), t.o.m.Live())
	}
}

// TestModel does the same to two machines of the same code and to the model.
func TestModel(t *testing.T) {
	d := dice(9)
	count := map[machine.Result]int{}
	for range 1500 {
		p := somePrograms(&d)
		room := d.of(30, 60, 200, 1000)
		x := pair{T: t, o: &model{p: p, m: mem.New(room), events: map[int]int{}}, count: count}
		var err [2]api.Errno
		x.a, err[0] = machine.New(p, room)
		x.b, err[1] = machine.New(p, room)
		if err != [2]api.Errno{} {
			t.Fatalf("New: %v, of\n%s", err, code.Text(p))
		}
		for range 30 {
			x.act(&d)
			if d.roll(3) > 0 {
				x.same()
			}
		}
		x.same()
	}
	for _, kind := range []machine.Kind{machine.Yielded, machine.Pending, machine.Done, machine.Aborted, machine.Fuel, machine.Memory} {
		if count[machine.Result{Kind: kind}] < 100 {
			t.Errorf("kind %d: %d times, too few to tell", kind, count[machine.Result{Kind: kind}])
		}
	}
	for _, e := range []api.Errno{api.ErrKind, api.ErrFreed, api.ErrRange, api.ErrInit, api.ErrCode, api.ErrTable} {
		if count[machine.Result{Kind: machine.Bad, N: int(e)}] < 5 {
			t.Errorf("%v: %d times, too few to tell", e, count[machine.Result{Kind: machine.Bad, N: int(e)}])
		}
	}
}
