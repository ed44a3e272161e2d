package alive_test

import (
	"slices"
	"strings"
	"testing"

	"cocoon/alive"
	"cocoon/api"
)

// deed is what a step, or an end, of known's locals does: which of them it uses, and which it sets.
type deed struct {
	line       string
	uses, sets []int
}

func steps() []deed {
	return []deed{
		{"live 0", nil, []int{0}},
		{"live 1", nil, []int{1}},
		{"live 12", nil, []int{12}},
		{"dead 0", nil, []int{0}},
		{"dead 1", nil, []int{1}},
		{"dead 12", nil, []int{12}},
		{"end 0", []int{0}, nil},
		{"end 1", []int{1}, nil},
		{"end 8", []int{8}, nil},
		{"drop 0", []int{0}, nil},
		{"drop 1", []int{1}, nil},
		{"drop 6", []int{6}, nil},
		{"print #1", nil, nil},
		{"print copy 0", []int{0}, nil},
		{"print copy 14", []int{14}, nil},
		{"print copy 10.1", []int{10}, nil},
		{"print copy 7.-1.0.0", []int{7}, nil},
		{"open 4 0 -1", []int{4}, nil},
		{"open 4 1 0", []int{4}, []int{0}},
		{"open 4 1 14", []int{4}, []int{14}},
		{"open 4 2 1", []int{4}, []int{1}},
		{"open 13 0 13", []int{13}, nil}, // used ahead of being set
		{"open 13 1 -1", []int{13}, nil},
		// of a number, of another local, of a part
		{"set 0 = 0 0 0 #1", nil, []int{0}},
		{"set 0 = 0 0 0 copy 0", []int{0}, nil},
		{"set 14 = 0 0 0 copy 0", []int{0}, []int{14}},
		{"set 14 = 0 0 0 copy 3.1", []int{3}, []int{14}},
		{"set 0 = 0 0 0 copy 6.-1.1", []int{6}, []int{0}},
		{"set 1 = 0 0 0 move 2", []int{2}, []int{1}},
		{"set 10 = 0 0 0 move 10", []int{10}, nil},
		{"set 7 = 0 0 0 move 12", []int{12}, []int{7}},
		{"set 6 = 0 0 0 copy 6", []int{6}, nil},
		// reckoned
		{"set 0 = 1 0 0 copy 7.-1.0.0 copy 10.1", []int{7, 10}, []int{0}},
		{"set 0 = 2 0 0 #1 copy 5.-1", []int{5}, []int{0}},
		{"set 0 = 3 0 0 copy 0 copy 0", []int{0}, nil},
		{"set 0 = 3 0 0 copy 14 copy 0", []int{0, 14}, nil},
		{"set 14 = 4 0 0 copy 14 #1", []int{14}, nil},
		{"set 14 = 5 0 0 #1 #2", nil, []int{14}},
		// borrowed
		{"set 6 = 6 0 0 3", []int{3}, []int{6}},
		{"set 6 = 6 0 0 7.-1", []int{7}, []int{6}},
		{"set 6 = 6 0 0 6.-1", []int{6}, nil},
		{"set 7 = 7 0 0 3", []int{3}, []int{7}},
		{"set 7 = 7 0 0 12.-1", []int{12}, []int{7}},
		{"set 7 = 7 0 0 7.-1", []int{7}, nil},
		// boxed, and out of it
		{"set 5 = 8 0 0 #1", nil, []int{5}},
		{"set 5 = 8 0 0 copy 5.-1", []int{5}, nil},
		{"set 11 = 8 0 0 move 1", []int{1}, []int{11}},
		{"set 1 = 9 0 0 11", []int{11}, []int{1}},
		{"set 0 = 9 0 0 5", []int{5}, []int{0}},
		// made
		{"set 1 = 10 1 0 copy 0", []int{0}, []int{1}},
		{"set 3 = 10 2 0 move 1 #1 move 2", []int{1, 2}, []int{3}},
		{"set 3 = 10 2 0 move 1 copy 5.-1 move 2", []int{1, 2, 5}, []int{3}},
		{"set 10 = 10 0 0 copy 10.1 copy 10.0", []int{10}, nil},
		{"set 4 = 11 0 0", nil, []int{4}},
		{"set 4 = 11 0 1 copy 0", []int{0}, []int{4}},
		{"set 4 = 11 0 2 move 2", []int{2}, []int{4}},
		{"set 8 = 12 0 0 copy 1.0", []int{1}, []int{8}},
		{"set 9 = 12 1 0 move 9 move 1", []int{1, 9}, nil},
		// a part is set
		{"set 3.1 = 0 0 0 #1", []int{3}, nil},
		{"set 3.0.0 = 0 0 0 copy 3.1", []int{3}, nil},
		{"set 1.0 = 0 0 0 copy 0", []int{0, 1}, nil},
		{"set 5.-1 = 0 0 0 #1", []int{5}, nil},
		{"set 5.-1 = 9 0 0 5", []int{5}, nil},
		{"set 11.-1.0 = 0 0 0 #1", []int{11}, nil},
		{"set 7.-1.1 = 1 0 0 copy 6.-1.1 #1", []int{6, 7}, nil},
		{"set 10.0 = 9 0 0 5", []int{5, 10}, nil},
	}
}

// ends are such as go to block 2, as often as they go somewhere.
func ends() []deed {
	return []deed{
		{"goto 2", nil, nil},
		{"if #1 2 2", nil, nil},
		{"if copy 0 2 2", []int{0}, nil},
		{"if copy 5.-1 2 2", []int{5}, nil},
		{"match 4 2 2 2", []int{4}, nil},
		{"match 13 2 2", []int{13}, nil},
		{"return #1", nil, nil},
		{"return copy 14", []int{14}, nil},
		{"return copy 3.2.0", []int{3}, nil},
		{"yield #1 2", nil, nil},
		{"yield copy 0 2", []int{0}, nil},
		{"yield copy 6.-1.1 2", []int{6}, nil},
		{"await 0 8 2", []int{8}, []int{0}},
		{"await 14 9 2", []int{9}, []int{14}},
		{"await 3.1 8 2", []int{3, 8}, nil},
		{"await 5.-1 9 2", []int{5, 9}, nil},
		{"poll 0 8 2", []int{8}, []int{0}},
		{"poll 14 9 2", []int{9}, []int{14}},
		{"poll 3.0.0 8 2", []int{3, 8}, nil},
		{"poll 7.-1.1 9 2", []int{7, 9}, nil},
		{"wait 0 #1 2", nil, []int{0}},
		{"wait 14 copy 0 2", []int{0}, []int{14}},
		{"wait 0 copy 0 2", []int{0}, nil},
		{"wait 10.1 #1 2", []int{10}, nil},
		{"wait 10.1 copy 3.1 2", []int{3, 10}, nil},
	}
}

// ahead are the flags ahead of a deed, where those of a text are behind it.
func (x deed) ahead(locals string) string {
	l := []byte(locals)
	for _, n := range x.sets {
		l[n] = no
	}
	for _, n := range x.uses {
		l[n] = yes
	}
	return string(l)
}

// placed are the locals behind a line that have a place, where those of a text have one ahead of it.
func placed(line, locals string) string {
	words := strings.Fields(line)
	l := []byte(locals)
	for i := range l {
		if words[1] == itoa(i) && words[0] == "live" {
			l[i] = yes
		}
		if words[1] == itoa(i) && words[0] == "dead" {
			l[i] = no
		}
	}
	return string(l)
}

// allFlags are all ways in which a test looks at each place: all locals the same, but for one; and some in between.
func allFlags(d *dice) []string {
	var l []string
	for _, most := range []string{string(yes), string(no)} {
		all := strings.Repeat(most, count)
		l = append(l, all)
		for i := range count {
			for _, x := range []string{string(yes), string(no)} {
				if x != most {
					l = append(l, all[:i]+x+all[i+1:])
				}
			}
		}
	}
	for range 20 {
		text := ""
		for range count {
			text += string([]byte{yes, no}[d.roll(2)])
		}
		l = append(l, text)
	}
	return l
}

// lines are the places of the locals whose flag is such, with a text ahead of each, and one behind it; that of the result, the last one, is a text of its own.
func lines(flags string, flag rune, ahead, behind, last string) string {
	text := ""
	for i, x := range flags[:count-1] {
		if x == flag {
			text += ahead + itoa(i) + behind
		}
	}
	if rune(flags[count-1]) == flag {
		text += last
	}
	return text
}

// isDone fails, if a deed, that is told as block 1, is not told as it should be, where some locals have a place ahead of it, and some are used behind it.
func isDone(t *testing.T, s api.Source, x deed, has, used string) {
	t.Helper()
	line, step := x.line, 0
	if !isEnd(line) {
		line, step = line+"; goto 2", 1
	}
	b := read(t, s, known+told(
		lines(has, no, "dead ", ";", "")+"goto 1",
		line,
		lines(used, yes, "end ", ";", "print copy 14;")+"return #0",
	))
	if strings.HasPrefix(line, "return") { // nothing comes behind it
		used = strings.Repeat(string(no), count)
	}
	about := x.line + " behind " + has + ", ahead of " + used
	last := strings.Repeat(" "+used, step)
	is(t, about+", alive", rows(alive.Alive(s, b)[1]), x.ahead(used)+" "+used+last)
	has = has[:count-1] + string(yes) // the result has a place everywhere
	behind := placed(x.line, has)
	last = strings.Repeat(" "+behind, step)
	is(t, about+", storage", rows(alive.Storage(s, b)[1]), has+" "+behind+last)
	want := ""
	if slices.Contains([]string{"yield", "await", "wait"}, strings.Fields(line)[0]) {
		want = strings.TrimSpace(lines(has, yes, "", " ", ""))
	}
	is(t, about+", saved", saved(s, b), want)
}

// isEnd tells whether a line is that of an end.
func isEnd(line string) bool {
	return slices.ContainsFunc(ends(), func(x deed) bool { return x.line == line })
}

// TestPlaces holds each kind of step, and of end, against all that may be ahead of it, and behind it.
func TestPlaces(t *testing.T) {
	d := dice(2)
	s := source(t, decls)
	for _, x := range slices.Concat(steps(), ends()) {
		all := allFlags(&d)
		for i, used := range all {
			isDone(t, s, x, all[(i*7+3)%len(all)], used)
		}
	}
}

// TestKinds: no kind of step, of end, or of what is set is missing among those that are held against all.
func TestKinds(t *testing.T) {
	got := map[string]int{}
	for _, x := range steps() {
		in := body(t, x.line+"; return #0").Blocks[0].Ins[0]
		got["step "+itoa(int(in.K))]++
		if in.K == api.InSet {
			got["value "+itoa(int(in.V.K))]++
		}
	}
	for _, x := range ends() {
		b := body(t, x.line, "return #0", "return #0")
		got["end "+itoa(int(b.Blocks[0].End.K))]++
	}
	for word, n := range map[string]int{"step ": int(api.InOpen), "value ": int(api.RvStart), "end ": int(api.TmWait)} {
		for k := range n + 1 {
			if got[word+itoa(k)] == 0 {
				t.Errorf("there is no %s%d", word, k)
			}
		}
	}
}

// TestAt: where steps and ends stand in a text does not count.
func TestAt(t *testing.T) {
	s := source(t, decls)
	for _, at := range []int{0, 5, -1, 1<<63 - 1, -1 << 63} {
		b := body(t, "dead 2; print copy 0; wait 0 #1 1", "end 1; return copy 14")
		for i := range b.Blocks {
			for j := range b.Blocks[i].Ins {
				b.Blocks[i].Ins[j].At = at
			}
			b.Blocks[i].End.At = at
		}
		is(t, "alive", rows(alive.Alive(s, b)[0]), "SS............S SS............S .S............S .S............S")
		is(t, "saved", saved(s, b), "0 1 3 4 5 6 7 8 9 10 11 12 13")
	}
}
