package code_test

import (
	"math"
	"slices"
	"strings"
	"testing"

	"cocoon/api"
	"cocoon/code"
)

// row is a row of the chapter's table: which fields are read and written, how many labels there are, and what the others may be.
type row struct {
	op     api.Op
	reads  string
	writes string
	labels string // "", "1" or "1+"
	others string // a field and what it may be: any, words, natural, co, fun
}

// rows are all of the table.
func rows() []row {
	return []row{
		{api.OpConst, "", "A", "", "B any"},
		{api.OpFrame, "", "A", "", "B words"},
		{api.OpOff, "B", "A", "", "C words"},
		{api.OpLoad, "B", "A", "", ""},
		{api.OpStore, "AB", "", "", ""},
		{api.OpCopy, "AB", "", "", "C words"},
		{api.OpMove, "AB", "", "", "C words"},
		{api.OpClear, "A", "", "", "C words"},
		{api.OpAdd, "BC", "A", "1", ""},
		{api.OpSub, "BC", "A", "1", ""},
		{api.OpMul, "BC", "A", "1", ""},
		{api.OpLess, "BC", "A", "", ""},
		{api.OpSame, "BC", "A", "", ""},
		{api.OpJump, "", "", "1", ""},
		{api.OpIf, "A", "", "1", ""},
		{api.OpTable, "A", "", "1+", ""},
		{api.OpAlloc, "", "A", "", "C words"},
		{api.OpFree, "A", "", "", ""},
		{api.OpPrint, "A", "", "", ""},
		{api.OpDrop, "A", "", "", "B natural"},
		{api.OpYield, "A", "", "", ""},
		{api.OpWait, "B", "A", "", ""},
		{api.OpStart, "", "A", "", "B co"},
		{api.OpPoll, "A", "", "1", ""},
		{api.OpStep, "B", "A", "1", ""},
		{api.OpCancel, "A", "", "", ""},
		{api.OpCall, "A", "", "", "B fun"},
		{api.OpReturn, "", "", "", ""},
		{api.OpAbort, "", "", "", ""},
		{api.OpEnd, "", "", "", ""},
	}
}

// field is a field of an instruction by its letter.
func field(x *api.Ins, letter byte) *int {
	return map[byte]*int{'A': &x.A, 'B': &x.B, 'C': &x.C}[letter]
}

// wrongOps are some that the table has not.
func wrongOps() []api.Op {
	return []api.Op{-1, 30, 31, math.MaxInt, math.MinInt}
}

func TestReadsWrites(t *testing.T) {
	for _, r := range rows() {
		for _, n := range [][3]int{{3, 5, 7}, {2, 2, 2}, {0, 0, 0}, {15, 16, -1}, {math.MinInt, math.MaxInt, math.MinInt}} {
			x := api.Ins{Op: r.op, A: n[0], B: n[1], C: n[2], L: []int{1, 2}}
			var reads []int
			for i := range r.reads {
				reads = append(reads, *field(&x, r.reads[i]))
			}
			if got := code.Reads(x); !slices.Equal(got, reads) {
				t.Errorf("Reads(%v): %v, want %v", x, got, reads)
			}
			reg, wrote := 0, r.writes != ""
			if wrote {
				reg = *field(&x, r.writes[0])
			}
			if got, ok := code.Writes(x); got != reg || ok != wrote {
				t.Errorf("Writes(%v): %v, %v, want %v, %v", x, got, ok, reg, wrote)
			}
		}
	}
}

func TestFalls(t *testing.T) {
	last := []api.Op{api.OpJump, api.OpTable, api.OpReturn, api.OpAbort, api.OpEnd}
	for _, r := range rows() {
		if got, want := code.Falls(api.Ins{Op: r.op, L: []int{0}}), !slices.Contains(last, r.op); got != want {
			t.Errorf("Falls of %d: %v", r.op, got)
		}
	}
}

func TestNoSuchOp(t *testing.T) {
	for _, op := range wrongOps() {
		x := api.Ins{Op: op, A: 1, B: 2, C: 3, L: []int{0}}
		if got := code.Reads(x); len(got) != 0 {
			t.Errorf("Reads of %d: %v", op, got)
		}
		if reg, ok := code.Writes(x); reg != 0 || ok {
			t.Errorf("Writes of %d: %v, %v", op, reg, ok)
		}
		if code.Falls(x) {
			t.Errorf("Falls of %d", op)
		}
	}
}

// TestReadsApart: what is done to one answer is not seen in another one.
func TestReadsApart(t *testing.T) {
	x := api.Ins{Op: api.OpStore, A: 1, B: 2}
	for i := range code.Reads(x) {
		code.Reads(x)[i] = 9
	}
	if got := code.Reads(x); !slices.Equal(got, []int{1, 2}) {
		t.Errorf("Reads: %v", got)
	}
}

func TestKinds(t *testing.T) {
	funs := make([][]api.Ins, 5)
	for _, x := range []struct {
		cos  []api.Co
		want []int
	}{
		{nil, []int{0, 0, 0, 0, 0}},
		{[]api.Co{{Resume: 1, Cancel: 3}}, []int{0, 1, 0, 2, 0}},
		{[]api.Co{{}}, []int{1, 0, 0, 0, 0}},
		{[]api.Co{{Resume: 4, Cancel: 4}}, []int{0, 0, 0, 0, 1}},
		{[]api.Co{{Resume: 0, Cancel: 1}, {Resume: 2, Cancel: 1}}, []int{1, 2, 1, 0, 0}},
		{[]api.Co{{Resume: 0, Cancel: 1}, {Resume: 1, Cancel: 0}}, []int{1, 1, 0, 0, 0}},
		{[]api.Co{{Resume: 1, Cancel: 2}, {Resume: 0, Cancel: 1}}, []int{1, 1, 2, 0, 0}},
		{[]api.Co{{Resume: 5, Cancel: -1}}, []int{0, 0, 0, 0, 0}},
		{[]api.Co{{Resume: math.MinInt, Cancel: math.MaxInt}, {Resume: -1, Cancel: 5}}, []int{0, 0, 0, 0, 0}},
		{[]api.Co{{Resume: -1, Cancel: 4, Words: -9, Args: 7}}, []int{0, 0, 0, 0, 2}},
	} {
		if got := code.Kinds(api.Program{Funs: funs, Cos: x.cos}); !slices.Equal(got, x.want) {
			t.Errorf("Kinds of %v: %v, want %v", x.cos, got, x.want)
		}
	}
	if got := code.Kinds(api.Program{Cos: []api.Co{{}}}); len(got) != 0 {
		t.Errorf("Kinds without functions: %v", got)
	}
}

func TestText(t *testing.T) {
	for _, x := range []struct {
		p    api.Program
		want string
	}{
		{api.Program{}, ""},
		{api.Program{Funs: [][]api.Ins{nil, {}}}, "fun\nfun\n"},
		{api.Program{Cos: []api.Co{co("f", 1, 2, 3, 4), co("", -5, 0, math.MaxInt, math.MinInt)}},
			"co 1 2 3 4\nco -5 0 9223372036854775807 -9223372036854775808\n"},
		{api.Program{
			Funs: [][]api.Ins{{{Op: api.OpAdd, A: 1, B: 2, C: 3, L: []int{4}}, {Op: api.OpEnd}}, {{Op: api.OpTable, A: 7, L: []int{0, 10, 200}}}},
			Cos:  []api.Co{{Name: "a b\n", Resume: 0, Cancel: 1, Words: 3}},
		}, "co 0 1 3 0\nfun\n8 1 2 3 4\n29 0 0 0\nfun\n15 7 0 0 0 10 200\n"},
		{api.Program{Funs: [][]api.Ins{{{Op: -1, A: -2, B: -3, C: -4, L: []int{-5}}, {Op: 1000, L: []int{}}}}},
			"fun\n-1 -2 -3 -4 -5\n1000 0 0 0\n"},
	} {
		if got := code.Text(x.p); got != x.want {
			t.Errorf("Text of %v:\n%q, want\n%q", x.p, got, x.want)
		}
	}
}

// TestTextLeaves: L is handed on, and what stands behind it in its array stays as it is.
func TestTextLeaves(t *testing.T) {
	numbers := []int{1, 2, 3, 4}
	p := api.Program{Funs: [][]api.Ins{{{Op: api.OpTable, L: numbers[:2]}}}}
	code.Text(p)
	code.Valid(p)
	if !slices.Equal(numbers, []int{1, 2, 3, 4}) {
		t.Errorf("L became %v", numbers)
	}
}

// TestTextLong: a text of many lines has them all.
func TestTextLong(t *testing.T) {
	fun := make([]api.Ins, 1000)
	if got := code.Text(api.Program{Funs: [][]api.Ins{fun, fun}}); got != strings.Repeat("fun\n"+strings.Repeat("0 0 0 0\n", 1000), 2) {
		t.Errorf("%d bytes", len(got))
	}
}

// co is a coroutine of fewer words.
func co(name string, resume, cancel, words, args int) api.Co {
	return api.Co{Name: name, Resume: resume, Cancel: cancel, Words: words, Args: args}
}
