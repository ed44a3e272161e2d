package code_test

import (
	"testing"

	"cocoon/api"
	"cocoon/code"
)

// in is an instruction of fewer words.
func in(op api.Op, a, b, c int, labels ...int) api.Ins {
	return api.Ins{Op: op, A: a, B: b, C: c, L: labels}
}

// of is a program whose function of that kind has these instructions.
func of(kind int, fun ...api.Ins) api.Program {
	p := around(kind)
	p.Funs[kind] = fun
	return p
}

func set(reg int) api.Ins { return in(api.OpConst, reg, 0, 0) }

func told(reg int) api.Ins { return in(api.OpPrint, reg, 0, 0) }

func jump(place int) api.Ins { return in(api.OpJump, 0, 0, 0, place) }

func branch(reg, place int) api.Ins { return in(api.OpIf, reg, 0, 0, place) }

// TestFirst: a register is handed in to a function of the kind 0 alone, and no other one than 0.
func TestFirst(t *testing.T) {
	may(t, "handed in", of(glue, told(0), end()), true)
	may(t, "the chapter's example", of(glue, in(api.OpLoad, 1, 0, 0), end()), true)
	may(t, "to one that cancels", of(cancel, told(0), end()), false)
	may(t, "to one that goes on", of(resume, told(0), in(api.OpReturn, 0, 0, 0)), false)
	for reg := 1; reg < api.MaxRegs; reg++ {
		may(t, "another one", of(glue, told(reg), end()), false)
		may(t, "written", of(glue, set(reg), told(reg), end()), true)
		may(t, "written too late", of(glue, told(reg), set(reg), end()), false)
		may(t, "another one written", of(glue, set(reg-1), told(reg), end()), false)
	}
}

// TestReadsAhead: each register that an instruction reads must be written, and what it writes is so behind it alone.
func TestReadsAhead(t *testing.T) {
	for _, r := range rows() {
		kind := stands(r.op)[0]
		for skip := range r.reads {
			p := around(kind, right(r))
			x := &p.Funs[kind][api.MaxRegs]
			x.A, x.B, x.C = 0, 0, 0
			n := field(x, r.reads[skip])
			*n = 5
			may(t, "all are written", p, true)
			p.Funs[kind][5].A = 6
			may(t, "one is not", p, false)
			if r.writes != "" {
				*field(x, r.writes[0]) = 5
				may(t, "what it writes itself", p, false)
			}
		}
		if r.writes == "" {
			continue
		}
		p := around(kind, right(r), told(5))
		x := &p.Funs[kind][api.MaxRegs]
		p.Funs[kind][5].A = 6
		may(t, "written by none", p, false)
		*field(x, r.writes[0]) = 5
		may(t, "written by it", p, true)
	}
}

// TestBehindLabels: what an instruction writes is written for its labels, too, and what it reads no more than elsewhere.
func TestBehindLabels(t *testing.T) {
	for _, op := range []api.Op{api.OpAdd, api.OpSub, api.OpMul} {
		may(t, "for the label", of(glue, in(op, 1, 0, 0, 2), end(), told(1), end()), true)
		may(t, "for what follows", of(glue, in(op, 1, 0, 0, 2), told(1), end()), true)
		may(t, "another one for the label", of(glue, in(op, 1, 0, 0, 2), end(), told(2), end()), false)
	}
	done := in(api.OpReturn, 0, 0, 0)
	step := in(api.OpStep, 1, 0, 0, 3)
	may(t, "for the label of a step", of(resume, set(0), step, done, told(1), done), true)
	may(t, "not for a label of what has none to write", of(resume, set(0), in(api.OpPoll, 0, 0, 0, 3), done, told(1), done), false)
}

// TestOneOfSeveral: what is written on one of several ways is not written where they meet.
func TestOneOfSeveral(t *testing.T) {
	may(t, "one of two", of(glue, branch(0, 2), set(1), told(1), end()), false)
	may(t, "the other one", of(glue, branch(0, 3), set(1), jump(3), told(1), end()), false)
	may(t, "both", of(glue, branch(0, 3), set(1), jump(4), set(1), told(1), end()), true)
	may(t, "each another one", of(glue, branch(0, 3), set(1), jump(4), set(2), told(1), end()), false)
	may(t, "ahead of both", of(glue, set(1), branch(0, 3), set(2), told(1), end()), true)
	may(t, "on the way that reads", of(glue, branch(0, 3), set(1), told(1), end()), true)
	table := in(api.OpTable, 0, 0, 0, 1, 3, 5)
	may(t, "all of three", of(glue, table, set(1), jump(6), set(1), jump(6), set(1), told(1), end()), true)
	for i := 1; i < 6; i += 2 {
		p := of(glue, table, set(1), jump(6), set(1), jump(6), set(1), told(1), end())
		p.Funs[glue][i] = set(2)
		may(t, "two of three", p, false)
	}
	may(t, "behind a table", of(glue, in(api.OpTable, 0, 0, 0, 2), told(1), end()), true)
}

// TestRounds: what is written in a loop is not written at its first round.
func TestRounds(t *testing.T) {
	may(t, "read ahead in a loop", of(glue, told(1), set(1), branch(0, 0), end()), false)
	may(t, "written ahead of the loop", of(glue, set(1), told(1), set(1), branch(0, 1), end()), true)
	may(t, "written in the loop", of(glue, set(1), told(1), branch(0, 0), end()), true)
	may(t, "a loop with two ways in", of(glue, branch(0, 3), set(1), told(1), branch(0, 2), end()), false)
	may(t, "a loop without an end", of(glue, jump(0)), true)
	may(t, "one that is come to late", of(glue,
		set(1), branch(0, 4), told(1), end(), set(2), branch(0, 2), jump(8), end(), branch(0, 0), jump(2)), true)
	may(t, "one that loses it late", of(glue,
		branch(0, 4), set(1), told(1), jump(0), branch(0, 6), end(), jump(2)), false)
}

// TestTurns: a register that is lost turn by turn, as each round of a loop takes another way.
func TestTurns(t *testing.T) {
	var fun []api.Ins
	for i := 1; i < api.MaxRegs; i++ {
		fun = append(fun, set(i))
	}
	fun = append(fun, branch(0, 18), told(15), end()) // 15, 16, 17
	fun = append(fun, jump(16))                       // 18
	may(t, "none is lost", of(glue, fun...), true)
	fun[0] = branch(0, 18)
	may(t, "one way has none of them", of(glue, fun...), false)
}

// TestNeverReached: what is never reached may read what is not written, and takes nothing from what is reached.
func TestNeverReached(t *testing.T) {
	may(t, "behind the end", of(glue, end(), told(5), end()), true)
	may(t, "behind a jump", of(glue, jump(2), told(5), end()), true)
	may(t, "a loop of its own", of(glue, end(), told(5), branch(5, 1), end()), true)
	may(t, "to what is reached", of(glue, set(1), told(1), end(), jump(1)), true)
	may(t, "read there", of(glue, told(1), end(), set(1), jump(0)), false)
}

// TestStays: what may be run stays so behind more functions, and with instructions that are never reached.
func TestStays(t *testing.T) {
	p := around(resume, in(api.OpCall, 1, 0, 0), in(api.OpStart, 2, 0, 0), in(api.OpPoll, 2, 0, 0, 16))
	may(t, "as it is", p, true)
	more := api.Program{Cos: []api.Co{{Resume: resume + 1, Cancel: cancel + 1, Words: 3}}}
	for _, fun := range append([][]api.Ins{{told(0), end()}}, p.Funs...) {
		var moved []api.Ins
		for _, x := range append(fun, told(9), in(api.OpFree, 10, 0, 0), jump(0)) {
			if x.Op == api.OpCall {
				x.B++
			}
			moved = append(moved, x)
		}
		more.Funs = append(more.Funs, moved)
	}
	may(t, "behind one more", more, true)
	more.Funs = append(more.Funs, []api.Ins{in(api.OpCall, 0, 1, 0), end()})
	may(t, "with one more behind it", more, true)
}

// TestLongWays: a function of many instructions, and many ways, is looked at to its end.
func TestLongWays(t *testing.T) {
	const n = 65536
	fun := make([]api.Ins, 0, n)
	fun = append(fun, set(1))
	for len(fun) < n-2 {
		fun = append(fun, branch(0, n-2-len(fun)/2))
	}
	fun = append(fun, told(1), end())
	may := func(want bool) {
		t.Helper()
		if got := code.Valid(of(glue, fun...)); got != want {
			t.Errorf("Valid of a long function: %v", got)
		}
	}
	may(true)
	fun[0] = branch(0, n-2)
	may(false)
	for i := range n - 1 {
		fun[i] = jump(i + 1)
		if i%2 == 0 {
			fun[i] = set(i % api.MaxRegs)
		}
	}
	may(true)
	fun[n-2] = told(15)
	may(false)
	fun[n-2] = told(14)
	may(true)
}
