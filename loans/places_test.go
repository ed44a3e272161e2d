package loans_test

import (
	"slices"
	"strings"
	"testing"

	"cocoon/api"
	"cocoon/loans"
)

// deed is what a step of known's locals does: which reference holds something else behind it, whose loans it takes over, and whether it makes a loan.
type deed struct {
	line  string
	local int
	from  int
	lends bool
}

// none is told of a deed that changes no local, or takes over nothing.
const none = -1

func steps() []deed {
	return []deed{
		{"live 0", none, none, false},
		{"live 3", 3, none, false},
		{"live 5", 5, none, false},
		{"live 9", none, none, false},
		{"dead 2", none, none, false},
		{"dead 4", 4, none, false},
		{"dead 6", 6, none, false},
		{"dead 7", 7, none, false},
		{"dead 8", 8, none, false},
		{"dead 14", none, none, false},
		{"end 1", none, none, false},
		{"end 3", none, none, false},
		{"end 5", none, none, false},
		{"end 14", none, none, false},
		{"drop 4", none, none, false},
		{"drop 8", none, none, false},
		{"drop 9", none, none, false},
		{"print #1", none, none, false},
		{"print copy 0", none, none, false},
		{"print copy 3.-1", none, none, false},
		{"print copy 8.-1.1", none, none, false},
		{"open 9 0 -1", none, none, false},
		{"open 9 1 0", none, none, false},
		{"open 12 0 3", none, none, false},
		{"open 12 0 4", none, none, false},
		{"open 12 1 -1", none, none, false},
		// by a reference of a spot without steps, and of one whose local is no reference
		{"set 3 = 6 0 0 0", 3, none, true},
		{"set 4 = 6 0 0 15", 4, none, true},
		{"set 3 = 6 0 0 2.1", 3, none, true},
		{"set 3 = 6 0 0 14.0.0", 3, none, true},
		{"set 4 = 6 0 0 10.-1.0", 4, none, true},
		{"set 3 = 6 0 0 11.0.-1", 3, none, true},
		{"set 3 = 6 0 0 11.1.-1.0", 3, none, true},
		{"set 7 = 6 0 0 2", 7, none, true},
		{"set 7 = 6 0 0 10.-1", 7, none, true},
		{"set 5 = 7 0 0 0", 5, none, true},
		{"set 6 = 7 0 0 2.0", 6, none, true},
		{"set 6 = 7 0 0 10.-1.1", 6, none, true},
		{"set 5 = 7 0 0 11.1.-1.1", 5, none, true},
		{"set 8 = 7 0 0 2", 8, none, true},
		{"set 8 = 7 0 0 14.1", 8, none, true},
		{"set 8 = 7 0 0 10.-1", 8, none, true},
		// of one whose local is a reference
		{"set 3 = 6 0 0 4.-1", 3, 4, true},
		{"set 4 = 6 0 0 5.-1", 4, 5, true},
		{"set 3 = 6 0 0 7.-1.0", 3, 7, true},
		{"set 4 = 6 0 0 8.-1.1", 4, 8, true},
		{"set 7 = 6 0 0 8.-1", 7, 8, true},
		{"set 5 = 7 0 0 6.-1", 5, 6, true},
		{"set 6 = 7 0 0 8.-1.0", 6, 8, true},
		// of itself
		{"set 3 = 6 0 0 3.-1", 3, 3, true},
		{"set 7 = 6 0 0 7.-1", 7, 7, true},
		{"set 5 = 7 0 0 5.-1", 5, 5, true},
		{"set 8 = 7 0 0 8.-1", 8, 8, true},
		// by a use
		{"set 3 = 0 0 0 copy 4", 3, 4, false},
		{"set 4 = 0 0 0 copy 3", 4, 3, false},
		{"set 3 = 0 0 0 copy 3", 3, 3, false},
		{"set 7 = 0 0 0 copy 7", 7, 7, false},
		{"set 3 = 0 0 0 copy 11.0", 3, none, false},
		{"set 5 = 0 0 0 move 6", 5, 6, false},
		{"set 6 = 0 0 0 move 5", 6, 5, false},
		{"set 8 = 0 0 0 move 8", 8, 8, false},
		// locals that are no references
		{"set 0 = 0 0 0 #1", none, none, false},
		{"set 0 = 0 0 0 copy 3.-1", none, none, false},
		{"set 15 = 0 0 0 copy 8.-1.0", none, none, false},
		{"set 0 = 1 0 0 copy 3.-1 copy 5.-1", none, none, false},
		{"set 1 = 2 0 0 copy 3.-1 #1", none, none, false},
		{"set 1 = 3 0 0 #1 copy 4.-1", none, none, false},
		{"set 1 = 4 0 0 copy 3.-1 copy 4.-1", none, none, false},
		{"set 1 = 5 0 0 copy 3.-1 copy 3.-1", none, none, false},
		{"set 2 = 0 0 0 move 2", none, none, false},
		{"set 2 = 9 0 0 10", none, none, false},
		{"set 10 = 8 0 0 move 2", none, none, false},
		{"set 2 = 10 0 0 copy 3.-1 copy 5.-1", none, none, false},
		{"set 11 = 10 3 0 copy 3 move 8", none, none, false},
		{"set 9 = 11 0 1 copy 4.-1", none, none, false},
		{"set 12 = 11 1 0 copy 3", none, none, false},
		{"set 13 = 12 0 0 copy 5.-1", none, none, false},
		// spots with steps
		{"set 2.0 = 0 0 0 copy 3.-1", none, none, false},
		{"set 5.-1 = 0 0 0 #1", none, none, false},
		{"set 5.-1 = 0 0 0 copy 6.-1", none, none, false},
		{"set 8.-1.1 = 1 0 0 copy 8.-1.0 #1", none, none, false},
		{"set 10.-1.0 = 0 0 0 copy 4.-1", none, none, false},
		{"set 11.1.-1.0 = 0 0 0 #1", none, none, false},
	}
}

// ends are such as go to block 6, as often as they go somewhere. They change nothing.
func ends() []string {
	return []string{
		"goto 6",
		"if copy 3.-1 6 6",
		"match 9 6 6 6",
		"match 12 6 6",
		"return copy 5.-1",
		"return #1",
		"yield copy 3.-1 6",
		"await 0 13 6",
		"await 5.-1 13 6",
		"poll 1 13 6",
		"poll 8.-1.0 13 6",
		"wait 0 copy 4.-1 6",
		"wait 5.-1 #1 6",
	}
}

// first are sets of all references, each of a spot of its own.
func first() []string {
	return []string{"set 3 = 6 0 0 0", "set 4 = 6 0 0 1", "set 5 = 7 0 0 2.0", "set 6 = 7 0 0 2.1", "set 7 = 6 0 0 14.1", "set 8 = 7 0 0 2"}
}

// reference is the local of first's line of a place.
func reference(i int) int { return 3 + i }

// arms are blocks that go to block 5, each behind some of the lines of first, as the bits of a number tell. What comes of them is told, too: of each local which of their loans it holds, where all come together.
func arms(bits []int) ([]string, map[int][]int) {
	var blocks []string
	got, n := map[int][]int{}, 0
	for _, x := range bits {
		text := ""
		for i, line := range first() {
			if x>>i&1 == 1 {
				text += line + "; "
				got[reference(i)] = append(got[reference(i)], n)
				n++
			}
		}
		blocks = append(blocks, text+"goto 5")
	}
	return blocks, got
}

// rowsText is what locals hold as a text, as state tells it.
func rowsText(b api.Body, got map[int][]int) string {
	var all []string
	for local, x := range b.Locals {
		if l := got[local]; len(l) > 0 {
			l = slices.Compact(slices.Sorted(slices.Values(l)))
			var text []string
			for _, n := range l {
				text = append(text, itoa(n))
			}
			all = append(all, x.Name+strings.Join(text, ","))
		}
	}
	if len(all) == 0 {
		return "-"
	}
	return strings.Join(all, " ")
}

// behind is what is held behind a deed, that makes the loan of a place if it makes one.
func (x deed) behind(got map[int][]int, loan int) map[int][]int {
	l := map[int][]int{}
	for local, held := range got {
		if local != x.local {
			l[local] = held
		}
	}
	if x.local != none {
		l[x.local] = slices.Clone(got[x.from])
	}
	if x.lends {
		l[x.local] = append(l[x.local], loan)
	}
	return l
}

// isDone fails, if a deed is not told as it should be, where some arms come together ahead of it.
func isDone(t *testing.T, s api.Source, x deed, end string, bits []int) {
	t.Helper()
	blocks, got := arms(bits)
	blocks = append([]string{"if #1 1 7"}, blocks...)
	b := read(t, s, known+told(append(blocks, x.line+"; "+end, "return #0", "if #1 2 8", "if #1 3 4")...))
	loan := len(loans.Loans(b)) - 1
	then := rowsText(b, x.behind(got, loan))
	want := rowsText(b, got) + "; " + then + "; " + then
	l := loans.Held(s, b)
	is(t, x.line+"; "+end, states(t, b, l[5:6]), want)
	if l[6] != nil {
		is(t, "behind "+end, states(t, b, l[6:7]), then+"; "+then)
	} else if !strings.HasPrefix(end, "return") {
		t.Errorf("behind %s nothing is reached", end)
	}
}

// TestPlaces holds each kind of step against much that may be held ahead of it.
func TestPlaces(t *testing.T) {
	d := dice(2)
	s := source(t, decls)
	for i, x := range steps() {
		end := ends()[i%len(ends())]
		isDone(t, s, x, end, []int{0, 0, 0, 0})
		isDone(t, s, x, end, []int{63, 0, 0, 0})
		isDone(t, s, x, end, []int{63, 63, 63, 63})
		for i := range first() {
			isDone(t, s, x, end, []int{0, 0, 1 << i, 0})
			isDone(t, s, x, end, []int{63 - 1<<i, 0, 0, 0})
		}
		for range 10 {
			isDone(t, s, x, end, []int{d.roll(64), d.roll(64), d.roll(64), d.roll(64)})
		}
	}
	for _, end := range ends() {
		for range 10 {
			isDone(t, s, steps()[0], end, []int{d.roll(64), d.roll(64), d.roll(64), d.roll(64)})
		}
	}
}

// TestKinds: no kind of step, of end, or of what is set is missing among those that are held against all.
func TestKinds(t *testing.T) {
	got := map[string]int{}
	for _, x := range steps() {
		in := body(t, x.line+"; return #0").Blocks[0].Ins[0]
		got["step "+itoa(int(in.K))]++
		if in.K == api.InSet {
			got["value "+itoa(int(in.V.K))]++
		}
	}
	for _, x := range ends() {
		b := body(t, x, "return #0", "return #0", "return #0", "return #0", "return #0", "return #0")
		got["end "+itoa(int(b.Blocks[0].End.K))]++
	}
	for word, n := range map[string]int{"step ": int(api.InOpen), "value ": int(api.RvStart), "end ": int(api.TmWait)} {
		for k := range n + 1 {
			if got[word+itoa(k)] == 0 {
				t.Errorf("there is no %s%d", word, k)
			}
		}
	}
}

// TestAt: where steps and ends stand in a text does not count.
func TestAt(t *testing.T) {
	s := source(t, decls)
	for _, at := range []int{0, 5, -1, 1<<63 - 1, -1 << 63} {
		b := body(t, "set 3 = 6 0 0 0; yield #1 1", "set 4 = 6 0 0 3.-1; return #0")
		for i := range b.Blocks {
			for j := range b.Blocks[i].Ins {
				b.Blocks[i].Ins[j].At = at
			}
			b.Blocks[i].End.At = at
		}
		is(t, "loans", list(loans.Loans(b)), "0:0 & 0, 1:0 & 3.-1")
		is(t, "held", states(t, b, loans.Held(s, b)), "-; r0; r0 | r0; r0 q0,1; r0 q0,1")
	}
}
