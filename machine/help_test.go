package machine_test

import (
	"slices"
	"testing"

	"cocoon/api"
	"cocoon/code"
	"cocoon/machine"
)

// much is more fuel, and room, than any test needs that doesn't ask for it.
const much = 100000

func num(n int) api.Word { return api.Word{N: n} }

func ptr(a, n int) api.Word { return api.Word{Ptr: true, A: a, N: n} }

// in is an instruction of fewer words.
func in(op api.Op, a, b, c int, labels ...int) api.Ins {
	return api.Ins{Op: op, A: a, B: b, C: c, L: labels}
}

// fun is a function's instructions.
type fun []api.Ins

func set(reg, n int) api.Ins { return in(api.OpConst, reg, n, 0) }

func tell(reg int) api.Ins { return in(api.OpPrint, reg, 0, 0) }

func back() api.Ins { return in(api.OpReturn, 0, 0, 0) }

func abort() api.Ins { return in(api.OpAbort, 0, 0, 0) }

func end() api.Ins { return in(api.OpEnd, 0, 0, 0) }

// result is what returns a number; it uses the last two registers.
func result(n int) fun {
	return fun{set(14, n), in(api.OpFrame, 15, api.FrameResult, 0), in(api.OpStore, 15, 14, 0), back()}
}

// join puts instructions one behind the other; labels are left as they are.
func join(all ...fun) fun {
	return slices.Concat(all...)
}

// state stores a frame's state; it uses the last two registers.
func state(n int) fun {
	return fun{set(14, n), in(api.OpFrame, 15, api.FrameState, 0), in(api.OpStore, 15, 14, 0)}
}

// co is a coroutine.
type co struct {
	resume, cancel fun
	words, args    int
}

// of is a program of coroutines, whose functions are 2 i and 2 i + 1, and of others behind them.
func of(cos []co, called ...fun) api.Program {
	var p api.Program
	for i, c := range cos {
		if c.resume == nil {
			c.resume = fun{back()}
		}
		if c.cancel == nil {
			c.cancel = fun{end()}
		}
		p.Funs = append(p.Funs, c.resume, c.cancel)
		p.Cos = append(p.Cos, api.Co{Resume: 2 * i, Cancel: 2*i + 1, Words: max(c.words, api.FrameHead), Args: c.args})
	}
	for _, f := range called {
		p.Funs = append(p.Funs, f)
	}
	return p
}

// tester is a machine that is tested.
type tester struct {
	*testing.T
	m *machine.Machine
}

func testerOf(t *testing.T, p api.Program, words int) tester {
	t.Helper()
	m, err := machine.New(p, words)
	if m == nil || err != api.OK {
		t.Fatalf("New: %v, %v, of\n%s", m, err, code.Text(p))
	}
	return tester{t, m}
}

// begun is a machine of coroutines, and a frame of the first one, without arguments.
func begun(t *testing.T, cos []co, called ...fun) (tester, api.Word) {
	t.Helper()
	x := testerOf(t, of(cos, called...), much)
	return x, x.start(0)
}

func (t tester) start(co int, args ...int) api.Word {
	t.Helper()
	p, r := t.m.Start(co, args)
	if r != (machine.Result{Kind: machine.Done}) {
		t.Fatalf("Start(%d, %v): %v", co, args, r)
	}
	return p
}

// came fails, if something came out other than is wanted.
func (t tester) came(what string, got machine.Result, kind machine.Kind, n int) {
	t.Helper()
	if got != (machine.Result{Kind: kind, N: n}) {
		t.Errorf("%s: %v, want {%v %v}", what, got, kind, n)
	}
}

func (t tester) poll(p api.Word, kind machine.Kind, n int) {
	t.Helper()
	got, _ := t.m.Poll(p, 0, much)
	t.came("Poll", got, kind, n)
}

func (t tester) bad(p api.Word, err api.Errno) {
	t.Helper()
	t.poll(p, machine.Bad, int(err))
}

func (t tester) cancel(p api.Word, kind machine.Kind, n int) {
	t.Helper()
	got, _ := t.m.Cancel(p, 0, much)
	t.came("Cancel", got, kind, n)
}

// told fails, if other events were told.
func (t tester) told(want ...api.Event) {
	t.Helper()
	if got := t.m.Told(); !slices.Equal(got, want) {
		t.Errorf("Told: %v, want %v", got, want)
	}
}

// prints fails, if other numbers were told by task 0.
func (t tester) prints(numbers ...int) {
	t.Helper()
	var want []api.Event
	for _, n := range numbers {
		want = append(want, printed(0, n))
	}
	t.told(want...)
}

func (t tester) live(n int) {
	t.Helper()
	if got := t.m.Live(); got != n {
		t.Errorf("Live: %d, want %d", got, n)
	}
}

func printed(task, n int) api.Event { return api.Event{Kind: api.EvPrint, Task: task, N: n} }

func stepped(task, n int) api.Event { return api.Event{Kind: api.EvStep, Task: task, N: n} }

func dropped(task, which, n int) api.Event {
	return api.Event{Kind: api.EvDrop, Task: task, A: which, N: n}
}

// does runs a coroutine of these instructions, of 10 words, of which the arguments are 40, 41, .. at the words 3, 4, ..
func does(t *testing.T, args int, body ...api.Ins) (tester, machine.Result) {
	t.Helper()
	x := testerOf(t, of([]co{{resume: body, words: 10, args: args}}), much)
	var l []int
	for i := range args {
		l = append(l, 40+i)
	}
	r, _ := x.m.Poll(x.start(0, l...), 0, much)
	return x, r
}
