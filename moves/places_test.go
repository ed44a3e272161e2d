package moves_test

import (
	"slices"
	"strings"
	"testing"

	"cocoon/api"
	"cocoon/mir"
	"cocoon/moves"
)

// deed is what a step, or an end, of known's locals does: which of them it needs, and which are not set, and then set, behind it.
type deed struct {
	line              string
	needs, takes, set []int
}

func steps() []deed {
	return []deed{
		{"live 0", nil, []int{0}, nil},
		{"live 1", nil, []int{1}, nil},
		{"live 7", nil, []int{7}, nil},
		{"live 12", nil, []int{12}, nil},
		{"dead 0", nil, []int{0}, nil},
		{"dead 1", nil, []int{1}, nil},
		{"dead 12", nil, []int{12}, nil},
		{"end 0", nil, []int{0}, nil},
		{"end 1", nil, []int{1}, nil},
		{"end 8", nil, []int{8}, nil},
		{"end 12", nil, []int{12}, nil},
		{"drop 0", []int{0}, []int{0}, nil},
		{"drop 1", []int{1}, []int{1}, nil},
		{"drop 6", []int{6}, []int{6}, nil},
		{"drop 9", []int{9}, []int{9}, nil},
		{"print #1", nil, nil, nil},
		{"print copy 0", []int{0}, nil, nil},
		{"print copy 13", []int{13}, nil, nil},
		{"print copy 10.1", []int{10}, nil, nil},
		{"print copy 7.-1.0.0", []int{7}, nil, nil},
		{"open 4 0 -1", []int{4}, []int{4}, nil},
		{"open 4 1 0", []int{4}, []int{4}, []int{0}},
		{"open 4 1 13", []int{4}, []int{4}, []int{13}},
		{"open 4 2 1", []int{4}, []int{4}, []int{1}},
		// of a number, of another local, of a part
		{"set 0 = 0 0 0 #1", nil, nil, []int{0}},
		{"set 0 = 0 0 0 copy 0", []int{0}, nil, []int{0}},
		{"set 13 = 0 0 0 copy 0", []int{0}, nil, []int{13}},
		{"set 13 = 0 0 0 copy 3.1", []int{3}, nil, []int{13}},
		{"set 0 = 0 0 0 copy 6.-1.1", []int{6}, nil, []int{0}},
		{"set 1 = 0 0 0 move 2", []int{2}, []int{2}, []int{1}},
		{"set 10 = 0 0 0 move 10", []int{10}, []int{10}, []int{10}},
		{"set 7 = 0 0 0 move 12", []int{12}, []int{12}, []int{7}},
		{"set 6 = 0 0 0 copy 6", []int{6}, nil, []int{6}},
		// reckoned
		{"set 0 = 1 0 0 copy 7.-1.0.0 copy 10.1", []int{7, 10}, nil, []int{0}},
		{"set 0 = 2 0 0 #1 copy 5.-1", []int{5}, nil, []int{0}},
		{"set 0 = 3 0 0 copy 0 copy 0", []int{0}, nil, []int{0}},
		{"set 13 = 4 0 0 copy 13 #1", []int{13}, nil, []int{13}},
		{"set 13 = 5 0 0 #1 #2", nil, nil, []int{13}},
		// borrowed
		{"set 6 = 6 0 0 3", []int{3}, nil, []int{6}},
		{"set 6 = 6 0 0 7.-1", []int{7}, nil, []int{6}},
		{"set 6 = 6 0 0 6.-1", []int{6}, nil, []int{6}},
		{"set 7 = 7 0 0 3", []int{3}, nil, []int{7}},
		{"set 7 = 7 0 0 12.-1", []int{12}, nil, []int{7}},
		{"set 7 = 7 0 0 7.-1", []int{7}, nil, []int{7}},
		// boxed, and out of it
		{"set 5 = 8 0 0 #1", nil, nil, []int{5}},
		{"set 5 = 8 0 0 copy 5.-1", []int{5}, nil, []int{5}},
		{"set 11 = 8 0 0 move 1", []int{1}, []int{1}, []int{11}},
		{"set 1 = 9 0 0 11", []int{11}, []int{11}, []int{1}},
		{"set 0 = 9 0 0 5", []int{5}, []int{5}, []int{0}},
		// made
		{"set 1 = 10 1 0 copy 0", []int{0}, nil, []int{1}},
		{"set 3 = 10 2 0 move 1 #1 move 2", []int{1, 2}, []int{1, 2}, []int{3}},
		{"set 3 = 10 2 0 move 1 copy 2.0 move 2", []int{1, 2}, []int{1, 2}, []int{3}},
		{"set 10 = 10 0 0 copy 10.1 copy 10.0", []int{10}, nil, []int{10}},
		{"set 4 = 11 0 0", nil, nil, []int{4}},
		{"set 4 = 11 0 1 copy 0", []int{0}, nil, []int{4}},
		{"set 4 = 11 0 2 move 2", []int{2}, []int{2}, []int{4}},
		{"set 8 = 12 0 0 copy 1.0", []int{1}, nil, []int{8}},
		{"set 9 = 12 1 0 move 9 move 1", []int{1, 9}, []int{1, 9}, []int{9}},
		// moved away, and set in one step, though it drops
		{"set 1 = 0 0 0 move 1", []int{1}, []int{1}, []int{1}},
		{"set 5 = 0 0 0 move 5", []int{5}, []int{5}, []int{5}},
		// a part is set
		{"set 3.1 = 0 0 0 #1", []int{3}, nil, nil},
		{"set 3.0.0 = 0 0 0 copy 3.1", []int{3}, nil, nil},
		{"set 1.0 = 0 0 0 copy 0", []int{0, 1}, nil, nil},
		{"set 5.-1 = 0 0 0 #1", []int{5}, nil, nil},
		{"set 11.-1.0 = 0 0 0 #1", []int{11}, nil, nil},
		{"set 7.-1.1 = 1 0 0 copy 6.-1.1 #1", []int{6, 7}, nil, nil},
		{"set 10.0 = 9 0 0 5", []int{5, 10}, []int{5}, nil},
	}
}

// ends are such as go to block 4, as often as they go somewhere.
func ends() []deed {
	return []deed{
		{"goto 4", nil, nil, nil},
		{"if #1 4 4", nil, nil, nil},
		{"if copy 0 4 4", []int{0}, nil, nil},
		{"if copy 5.-1 4 4", []int{5}, nil, nil},
		{"match 4 4 4 4", []int{4}, nil, nil},
		{"return #1", nil, nil, nil},
		{"return copy 13", []int{13}, nil, nil},
		{"return copy 3.2.0", []int{3}, nil, nil},
		{"yield #1 4", nil, nil, nil},
		{"yield copy 0 4", []int{0}, nil, nil},
		{"yield copy 6.-1.1 4", []int{6}, nil, nil},
		{"await 0 8 4", []int{8}, []int{8}, []int{0}},
		{"await 13 9 4", []int{9}, []int{9}, []int{13}},
		{"await 3.1 8 4", []int{3, 8}, []int{8}, nil},
		{"await 5.-1 9 4", []int{5, 9}, []int{9}, nil},
		{"poll 0 8 4", []int{8}, nil, []int{0}},
		{"poll 13 9 4", []int{9}, nil, []int{13}},
		{"poll 3.0.0 8 4", []int{3, 8}, nil, nil},
		{"poll 7.-1.1 9 4", []int{7, 9}, nil, nil},
		{"wait 0 #1 4", nil, nil, []int{0}},
		{"wait 13 copy 0 4", []int{0}, nil, []int{13}},
		{"wait 0 copy 0 4", []int{0}, nil, []int{0}},
		{"wait 10.1 #1 4", []int{10}, nil, nil},
		{"wait 10.1 copy 3.1 4", []int{3, 10}, nil, nil},
	}
}

// How a local is ahead of a place: set on all ways, on none, or on one of two.
const (
	yes   = 'S'
	no    = '.'
	maybe = '?'
)

// ahead are blocks that come to block 3 with locals that are such: all are handed in, but for the result.
func ahead(locals string) []string {
	last := count - 1
	first, one := "", ""
	for i, x := range locals[:last] {
		switch x {
		case no:
			first += "dead " + itoa(i) + ";"
		case maybe:
			one += "dead " + itoa(i) + ";"
		}
	}
	switch locals[last] {
	case yes:
		first += "set 13 = 0 0 0 #0;"
	case maybe:
		one += "set 13 = 0 0 0 #0;"
	}
	return []string{first + "if #1 1 2", one + "goto 3", "goto 3"}
}

// allStates are all ways in which a test looks at each place: all locals the same, but for one; and some in between.
func allStates(d *dice) []string {
	var l []string
	for _, most := range []rune{yes, no, maybe} {
		all := strings.Repeat(string(most), count)
		l = append(l, all)
		for i := range count {
			for _, x := range []rune{yes, no, maybe} {
				if x != most {
					l = append(l, all[:i]+string(x)+all[i+1:])
				}
			}
		}
	}
	for range 20 {
		text := ""
		for range count {
			text += string("SSS.?"[d.roll(5)])
		}
		l = append(l, text)
	}
	return l
}

// behind are the states behind a deed, where those of a text are ahead of it.
func (x deed) behind(locals string) string {
	l := []byte(locals)
	for _, n := range x.takes {
		l[n] = no
	}
	for _, n := range x.set {
		l[n] = yes
	}
	return string(l)
}

// wrong tells whether something is wrong with a deed behind such states: overwrites tells whether what it sets may not be lost.
func (x deed) wrong(locals string, overwrites bool) bool {
	for _, n := range x.needs {
		if locals[n] != yes {
			return true
		}
	}
	for _, n := range x.set {
		if overwrites && drops(n) && locals[n] != no && !slices.Contains(x.takes, n) {
			return true
		}
	}
	return false
}

// row tells on which of two ways states are asked: what may be set is, or is not.
func row(locals string, every bool) string {
	if every {
		return strings.ReplaceAll(locals, string(maybe), string(no))
	}
	return strings.ReplaceAll(locals, string(maybe), string(yes))
}

// isDone fails, if a deed is not told as it should be, behind some states. Its block is told, and, as block 4, what stands behind.
func isDone(t *testing.T, s api.Source, x deed, locals, block, next string, overwrites bool) {
	t.Helper()
	b := read(t, s, known+told(append(ahead(locals), block, next)...))
	if n := len(b.Blocks[3].Ins); n > 0 {
		b.Blocks[3].Ins[0].At = 77
	} else {
		b.Blocks[3].End.At = 77
	}
	about := x.line + " behind " + locals
	behind := x.behind(locals)
	for every, l := range map[bool][][][]bool{false: moves.May(s, b), true: moves.Must(s, b)} {
		is(t, about, [][][]bool{l[3][:2]}, row(locals, every)+" "+row(behind, every))
		if len(mir.Succ(b.Blocks[3].End)) > 0 {
			is(t, "from "+about, [][][]bool{l[4][:1]}, row(behind, every))
		}
	}
	if x.wrong(locals, overwrites) {
		checked(t, about, s, b, api.ErrMoved, 77)
	} else {
		checked(t, about, s, b, api.OK, 0)
	}
}

// TestSteps holds each kind of step against all that may be ahead of it.
func TestSteps(t *testing.T) {
	d := dice(2)
	s := source(t, decls)
	for _, x := range steps() {
		for _, locals := range allStates(&d) {
			isDone(t, s, x, locals, x.line+"; goto 4", "return #0", strings.HasPrefix(x.line, "set"))
		}
	}
}

// TestEnds holds each kind of end against all that may be ahead of it.
func TestEnds(t *testing.T) {
	d := dice(4)
	s := source(t, decls)
	for _, x := range ends() {
		for _, locals := range allStates(&d) {
			isDone(t, s, x, locals, x.line, "return #0", false)
		}
	}
}

// TestKinds: no kind of step, of end, or of what is set is missing among those that are held against all.
func TestKinds(t *testing.T) {
	got := map[string]int{}
	for _, x := range steps() {
		in := body(t, x.line+"; return #0").Blocks[0].Ins[0]
		got["step "+itoa(int(in.K))]++
		if in.K == api.InSet {
			got["value "+itoa(int(in.V.K))]++
		}
	}
	for _, x := range ends() {
		b := body(t, x.line, "return #0", "return #0", "return #0", "return #0")
		got["end "+itoa(int(b.Blocks[0].End.K))]++
	}
	for word, n := range map[string]int{"step ": int(api.InOpen), "value ": int(api.RvStart), "end ": int(api.TmWait)} {
		for k := range n + 1 {
			if got[word+itoa(k)] == 0 {
				t.Errorf("there is no %s%d", word, k)
			}
		}
	}
}
