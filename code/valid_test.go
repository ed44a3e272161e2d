package code_test

import (
	"math"
	"slices"
	"strings"
	"testing"

	"cocoon/api"
	"cocoon/code"
)

// The kinds of functions, each of which has its place in what around makes.
const (
	glue = iota
	resume
	cancel
)

// around is a program of a coroutine, and a function of each kind; that of the kind that is asked for has, behind all its registers, these instructions.
func around(kind int, body ...api.Ins) api.Program {
	funs := [][]api.Ins{{end()}, {{Op: api.OpReturn}}, {end()}}
	var all []api.Ins
	for i := range api.MaxRegs {
		all = append(all, api.Ins{Op: api.OpConst, A: i})
	}
	funs[kind] = append(append(all, body...), funs[kind]...)
	return api.Program{Funs: funs, Cos: []api.Co{{Name: "f", Resume: resume, Cancel: cancel, Words: 10, Args: 2}}}
}

func end() api.Ins { return api.Ins{Op: api.OpEnd} }

// may fails, if a program may be run, or not, other than is wanted.
func may(t *testing.T, what string, p api.Program, want bool) {
	t.Helper()
	if got := code.Valid(p); got != want {
		t.Errorf("%s: Valid is %v:\n%s", what, got, code.Text(p))
	}
}

// stands tells in functions of which kind an operation may be.
func stands(op api.Op) []int {
	switch op {
	case api.OpFrame:
		return []int{resume, cancel}
	case api.OpYield, api.OpWait, api.OpPoll, api.OpStep, api.OpReturn, api.OpAbort:
		return []int{resume}
	case api.OpEnd:
		return []int{glue, cancel}
	}
	return []int{glue, resume, cancel}
}

// right is an instruction of a row, as it may stand.
func right(r row) api.Ins {
	x := api.Ins{Op: r.op}
	if r.labels != "" {
		x.L = []int{api.MaxRegs + 1} // the end
	}
	return x
}

func TestStands(t *testing.T) {
	for _, r := range rows() {
		for kind := range 3 {
			may(t, "an instruction alone", around(kind, right(r)), slices.Contains(stands(r.op), kind))
		}
	}
}

// TestNoSuchOpValid: not even where it is never reached.
func TestNoSuchOpValid(t *testing.T) {
	for _, op := range wrongOps() {
		may(t, "an operation that there is not", around(glue, api.Ins{Op: op}), false)
		may(t, "never reached", around(glue, end(), api.Ins{Op: op}), false)
		may(t, "at the end", api.Program{Funs: [][]api.Ins{{{Op: op}}}}, false)
	}
}

// allowed are numbers that a field may be, at its limits, and refused those that it may not.
func allowed(r row, letter string) (yes, no []int) {
	far := []int{math.MinInt, math.MaxInt}
	switch {
	case strings.Contains(r.reads+r.writes, letter):
		return []int{0, 1, api.MaxRegs - 1}, append(far, -1, api.MaxRegs, api.MaxRegs+1)
	case r.others == letter+" any":
		return append(far, -1, 0, 1), nil
	case r.others == letter+" words":
		return []int{0, 1, api.MaxWords}, append(far, -1, api.MaxWords+1)
	case r.others == letter+" natural":
		return []int{0, 1, math.MaxInt}, []int{-1, math.MinInt}
	case r.others == letter+" co":
		return []int{0}, append(far, -1, 1)
	case r.others == letter+" fun":
		return []int{0}, append(far, -1, resume, cancel, 3)
	}
	return []int{0}, append(far, -1, 1)
}

func TestFields(t *testing.T) {
	for _, r := range rows() {
		for _, letter := range []string{"A", "B", "C"} {
			yes, no := allowed(r, letter)
			for i, n := range append(yes, no...) {
				x := right(r)
				*field(&x, letter[0]) = n
				for _, kind := range stands(r.op) {
					may(t, "field "+letter, around(kind, x), i < len(yes))
					may(t, "field "+letter+", never reached", around(kind, api.Ins{Op: api.OpJump, L: []int{18}}, x), i < len(yes))
				}
			}
		}
	}
}

func TestLabels(t *testing.T) {
	last := api.MaxRegs + 1 // of what around makes with an instruction
	for _, r := range rows() {
		kind := stands(r.op)[0]
		for _, x := range []struct {
			labels []int
			want   bool
		}{
			{nil, r.labels == ""},
			{[]int{}, r.labels == ""},
			{[]int{last}, r.labels != ""},
			{[]int{0}, r.labels != ""},
			{[]int{last + 1}, false},
			{[]int{-1}, false},
			{[]int{math.MaxInt}, false},
			{[]int{math.MinInt}, false},
			{[]int{last, last}, r.labels == "1+"},
			{[]int{0, last, 3}, r.labels == "1+"},
			{[]int{0, last + 1}, false},
			{[]int{-1, last}, false},
			{[]int{last, -1, last}, false},
		} {
			may(t, "labels", around(kind, api.Ins{Op: r.op, L: x.labels}), x.want)
		}
	}
}

// TestLast: a function's last instruction may not go on with the next one, even if it is never reached.
func TestLast(t *testing.T) {
	may(t, "no function", api.Program{}, true)
	may(t, "no instruction", api.Program{Funs: [][]api.Ins{{}}}, false)
	may(t, "an end", api.Program{Funs: [][]api.Ins{{end()}}}, true)
	for _, r := range rows() {
		for _, kind := range stands(r.op) {
			p := around(kind)
			fun := p.Funs[kind]
			fun[len(fun)-1] = right(r)
			if r.labels != "" {
				fun[len(fun)-1].L = []int{0}
			}
			may(t, "at the end", p, !code.Falls(api.Ins{Op: r.op}))
			p.Funs[kind] = append([]api.Ins{{Op: api.OpJump, L: []int{0}}}, fun...)
			may(t, "at the end, never reached", p, !code.Falls(api.Ins{Op: r.op}))
		}
	}
}

func TestCoroutines(t *testing.T) {
	for _, x := range []struct {
		what string
		c    api.Co
		want bool
	}{
		{"as it is", api.Co{Resume: resume, Cancel: cancel, Words: 10, Args: 2}, true},
		{"the fewest words", api.Co{Resume: resume, Cancel: cancel, Words: 3}, true},
		{"too few words", api.Co{Resume: resume, Cancel: cancel, Words: 2}, false},
		{"no words", api.Co{Resume: resume, Cancel: cancel}, false},
		{"too few words for a sum", api.Co{Resume: resume, Cancel: cancel, Words: math.MinInt, Args: 5}, false},
		{"the most words", api.Co{Resume: resume, Cancel: cancel, Words: 1048576}, true},
		{"too many words", api.Co{Resume: resume, Cancel: cancel, Words: 1048577}, false},
		{"far too many words", api.Co{Resume: resume, Cancel: cancel, Words: math.MaxInt}, false},
		{"the most arguments", api.Co{Resume: resume, Cancel: cancel, Words: 10, Args: 7}, true},
		{"too many arguments", api.Co{Resume: resume, Cancel: cancel, Words: 10, Args: 8}, false},
		{"an argument without a word", api.Co{Resume: resume, Cancel: cancel, Words: 3, Args: 1}, false},
		{"as many as there may ever be", api.Co{Resume: resume, Cancel: cancel, Words: 1048576, Args: 1048573}, true},
		{"one more", api.Co{Resume: resume, Cancel: cancel, Words: 1048576, Args: 1048574}, false},
		{"far too many arguments", api.Co{Resume: resume, Cancel: cancel, Words: 10, Args: math.MaxInt}, false},
		{"less than no arguments", api.Co{Resume: resume, Cancel: cancel, Words: 10, Args: -1}, false},
		{"far less than none", api.Co{Resume: resume, Cancel: cancel, Words: 10, Args: math.MinInt}, false},
		{"no function to go on", api.Co{Resume: 3, Cancel: cancel, Words: 3}, false},
		{"none below 0", api.Co{Resume: -1, Cancel: cancel, Words: 3}, false},
		{"no function to cancel", api.Co{Resume: resume, Cancel: 3, Words: 3}, false},
		{"none below 0", api.Co{Resume: resume, Cancel: -1, Words: 3}, false},
		{"cancelled by what goes on", api.Co{Resume: resume, Cancel: resume, Words: 3}, false},
		{"the other way round", api.Co{Resume: cancel, Cancel: resume, Words: 3}, false},
		{"gone on with by what is called", api.Co{Resume: glue, Cancel: cancel, Words: 3}, false},
	} {
		p := around(resume)
		p.Cos[0] = x.c
		may(t, x.what, p, x.want)
		p = around(resume)
		p.Cos = append(p.Cos, x.c)
		may(t, x.what+", the second one", p, x.want && x.c.Cancel != resume)
	}
}

// TestShared: coroutines may share functions, but not one to go on by with one to cancel by.
func TestShared(t *testing.T) {
	p := around(resume)
	p.Cos = append(p.Cos, p.Cos[0], api.Co{Name: "f", Resume: resume, Cancel: cancel, Words: 3})
	may(t, "the same functions", p, true)
	p.Funs = append(p.Funs, []api.Ins{{Op: api.OpReturn}})
	p.Cos[2].Resume = 3
	may(t, "the same one to cancel", p, true)
	p.Cos[2] = api.Co{Resume: cancel, Cancel: 3, Words: 3}
	may(t, "crossed", p, false)
}

// TestCalls: what may be called is a function of the kind 0, and it may call itself.
func TestCalls(t *testing.T) {
	p := around(glue, api.Ins{Op: api.OpCall, A: 3, B: 0})
	p.Funs = append(p.Funs, []api.Ins{{Op: api.OpCall, B: 3}, {Op: api.OpCall, B: 0}, end()})
	may(t, "calls of all that may be", p, true)
	for b := 1; b < 3; b++ {
		p.Funs[3][1].B = b
		may(t, "a call of a coroutine's own", p, false)
	}
	p.Funs[3][1].B = 4
	may(t, "a call of none", p, false)
}

// TestStarts: of any coroutine of the program, by any function.
func TestStarts(t *testing.T) {
	for kind := range 3 {
		p := around(kind, api.Ins{Op: api.OpStart, B: 1})
		may(t, "a start of none", p, false)
		p.Cos = append(p.Cos, p.Cos[0])
		may(t, "a start of the second one", p, true)
	}
	may(t, "a start where none is", api.Program{Funs: [][]api.Ins{{{Op: api.OpStart}, end()}}}, false)
}

// TestMost: how many functions, coroutines and instructions there may be.
func TestMost(t *testing.T) {
	const most = 65536
	funs := make([][]api.Ins, most+1)
	for i := range funs {
		funs[i] = []api.Ins{end()}
	}
	for _, n := range []int{1, most - 1, most} {
		if !code.Valid(api.Program{Funs: funs[:n]}) {
			t.Errorf("%d functions: not valid", n)
		}
	}
	if code.Valid(api.Program{Funs: funs}) {
		t.Errorf("%d functions: valid", len(funs))
	}
	p := around(resume)
	for len(p.Cos) < most-3 {
		p.Cos = append(p.Cos, p.Cos[0])
	}
	if !code.Valid(p) {
		t.Errorf("%d coroutines: not valid", len(p.Cos))
	}
	for len(p.Cos) < most+1 {
		p.Cos = append(p.Cos, p.Cos[0])
	}
	if code.Valid(p) {
		t.Errorf("%d coroutines: valid", len(p.Cos))
	}
	fun := make([]api.Ins, most)
	fun[most-1] = end()
	if !code.Valid(api.Program{Funs: [][]api.Ins{fun}}) {
		t.Errorf("%d instructions: not valid", len(fun))
	}
	fun = append([]api.Ins{{}}, fun...)
	if code.Valid(api.Program{Funs: [][]api.Ins{{end()}, fun}}) {
		t.Errorf("%d instructions: valid", len(fun))
	}
}

// TestLater: what is wrong in any function, or coroutine, is found.
func TestLater(t *testing.T) {
	for i := range 4 {
		p := api.Program{Funs: [][]api.Ins{{end()}, {end()}, {end()}, {end()}}}
		p.Funs[i] = []api.Ins{{Op: api.OpPrint, A: 1}, end()}
		may(t, "a register that is not written", p, false)
		p.Funs[i][0].A = 0
		may(t, "the one that is handed in", p, true)
	}
}

// TestLeaves: asking changes nothing.
func TestLeaves(t *testing.T) {
	p := around(resume, api.Ins{Op: api.OpTable, L: []int{17, 0}})
	before := code.Text(p)
	code.Valid(p)
	kinds := code.Kinds(p)
	kinds[0] = 7
	if code.Text(p) != before || p.Cos[0].Name != "f" || !code.Valid(p) || code.Kinds(p)[0] != glue {
		t.Error("a program that was asked is another one")
	}
}
