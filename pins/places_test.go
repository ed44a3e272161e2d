package pins_test

import (
	"slices"
	"testing"

	"cocoon/api"
	"cocoon/mir"
	"cocoon/pins"
)

// deed is what a step, or an end, of known's locals does: which of them are not polled behind it, which are, and which of them a step moves that sets something.
type deed struct {
	line                string
	takes, polls, moves []int
}

func steps() []deed {
	return []deed{
		{"live 0", []int{0}, nil, nil},
		{"live 2", []int{2}, nil, nil},
		{"live 4", []int{4}, nil, nil},
		{"live 12", []int{12}, nil, nil},
		{"dead 2", []int{2}, nil, nil},
		{"dead 5", []int{5}, nil, nil},
		{"dead 9", []int{9}, nil, nil},
		{"dead 13", []int{13}, nil, nil},
		{"end 2", []int{2}, nil, nil},
		{"end 4", []int{4}, nil, nil},
		{"end 6", []int{6}, nil, nil},
		{"end 12", []int{12}, nil, nil},
		{"drop 0", []int{0}, nil, nil},
		{"drop 2", []int{2}, nil, nil}, // it is moved away, but nothing is set to it
		{"drop 3", []int{3}, nil, nil},
		{"drop 5", []int{5}, nil, nil},
		{"drop 12", []int{12}, nil, nil},
		{"print #1", nil, nil, nil},
		{"print copy 0", nil, nil, nil},
		{"print copy 1.1", nil, nil, nil},
		{"print copy 14.-1.0", nil, nil, nil},
		{"open 6 0 -1", nil, nil, nil},
		{"open 6 1 2", []int{2}, nil, nil},
		{"open 6 1 13", []int{13}, nil, nil},
		{"open 6 2 4", []int{4}, nil, nil},
		// of a number, of what is copied, of a part
		{"set 0 = 0 0 0 #1", []int{0}, nil, nil},
		{"set 0 = 0 0 0 copy 0", []int{0}, nil, nil},
		{"set 16 = 0 0 0 copy 10.0", []int{16}, nil, nil},
		{"set 1.0 = 0 0 0 copy 0", nil, nil, nil},
		{"set 10.0 = 0 0 0 #3", nil, nil, nil},
		{"set 14.-1.1 = 1 0 0 copy 0 #2", nil, nil, nil},
		{"set 0 = 5 0 0 copy 1.0 copy 10.3.0", []int{0}, nil, nil},
		{"set 1 = 10 0 0 #1 copy 0", []int{1}, nil, nil},
		{"set 15 = 0 0 0 copy 15", []int{15}, nil, nil},
		// of what is moved
		{"set 2 = 0 0 0 move 3", []int{2}, nil, []int{3}},
		{"set 3 = 0 0 0 move 2", []int{3}, nil, []int{2}},
		{"set 13 = 0 0 0 move 13", []int{13}, nil, []int{13}},
		{"set 4 = 0 0 0 move 5", []int{4}, nil, []int{5}},
		{"set 5 = 0 0 0 move 4", []int{5}, nil, []int{4}},
		{"set 12 = 0 0 0 move 12", []int{12}, nil, []int{12}},
		{"set 1 = 0 0 0 move 1", []int{1}, nil, []int{1}},
		{"set 6 = 0 0 0 move 6", []int{6}, nil, []int{6}},
		{"set 11 = 0 0 0 move 11", []int{11}, nil, []int{11}},
		{"set 14 = 0 0 0 move 14", []int{14}, nil, []int{14}},
		// borrowed
		{"set 15 = 6 0 0 2", []int{15}, nil, nil},
		{"set 15 = 6 0 0 7.-1", []int{15}, nil, nil},
		{"set 14 = 7 0 0 1", []int{14}, nil, nil},
		// boxed, and out of it
		{"set 7 = 8 0 0 move 2", []int{7}, nil, []int{2}},
		{"set 8 = 8 0 0 move 4", []int{8}, nil, []int{4}},
		{"set 2 = 9 0 0 7", []int{2}, nil, nil},
		{"set 5 = 9 0 0 8", []int{5}, nil, nil},
		{"set 7 = 0 0 0 move 7", []int{7}, nil, []int{7}},
		// made
		{"set 9 = 10 2 0 move 2 move 3 move 13", []int{9}, nil, []int{2, 3, 13}},
		{"set 9 = 10 2 0 move 13 move 2 move 2", []int{9}, nil, []int{13, 2, 2}},
		{"set 9 = 0 0 0 move 9", []int{9}, nil, []int{9}},
		{"set 10 = 10 3 0 copy 0 move 4 move 3 move 11", []int{10}, nil, []int{4, 3, 11}},
		{"set 10 = 10 3 0 #1 move 5 move 13 move 11", []int{10}, nil, []int{5, 13, 11}},
		{"set 11 = 10 1 0 #1", []int{11}, nil, nil},
		{"set 6 = 11 0 0", []int{6}, nil, nil},
		{"set 6 = 11 0 1 move 2", []int{6}, nil, []int{2}},
		{"set 6 = 11 0 2 move 5", []int{6}, nil, []int{5}},
		{"set 2 = 12 0 0 #1", []int{2}, nil, nil},
		{"set 13 = 12 0 0 copy 16", []int{13}, nil, nil},
		{"set 4 = 12 1 0 copy 0", []int{4}, nil, nil},
		{"set 12 = 12 2 0 move 2 #1 move 4", []int{12}, nil, []int{2, 4}},
		{"set 12 = 12 2 0 move 3 copy 0 move 5", []int{12}, nil, []int{3, 5}},
	}
}

func ends() []deed {
	return []deed{
		{"goto 1", nil, nil, nil},
		{"if copy 0 1 2", nil, nil, nil},
		{"match 6 1 2 3", nil, nil, nil},
		{"return copy 16", nil, nil, nil},
		{"yield copy 0 1", nil, nil, nil},
		{"wait 0 #1 1", nil, nil, nil},
		{"wait 1.0 copy 0 1", nil, nil, nil},
		{"await 0 2 1", []int{2}, nil, nil},
		{"await 1.0 4 1", []int{4}, nil, nil},
		{"await 14.-1.1 12 1", []int{12}, nil, nil},
		{"poll 0 2 1", nil, []int{2}, nil},
		{"poll 16 3 1", nil, []int{3}, nil},
		{"poll 1.1 4 1", nil, []int{4}, nil},
		{"poll 0 5 1", nil, []int{5}, nil},
		{"poll 14.-1.0 12 1", nil, []int{12}, nil},
		{"poll 10.0 13 1", nil, []int{13}, nil},
	}
}

// step is one of known's locals, as a text.
func step(t *testing.T, line string) api.In {
	t.Helper()
	return body(t, line+"; return #0").Blocks[0].Ins[0]
}

// end is one of known's locals, as a text; it goes to no block behind the fourth one.
func end(t *testing.T, line string) api.Tm {
	t.Helper()
	return body(t, line, "return #0", "return #0", "return #0").Blocks[0].End
}

// coroutines are the locals of known that are polled, those of s first.
var coroutines = [...]int{2, 3, 13, 4, 5, 12}

// isOfS tells whether a local is a coroutine that may not be moved.
func isOfS(local int) bool { return local == 2 || local == 3 || local == 13 }

// rows are the locals that may be polled ahead of what is looked at: none; each one alone; all but one; all.
func rows() [][]int {
	l := [][]int{nil, coroutines[:]}
	for i, local := range coroutines {
		l = append(l, []int{local}, slices.Delete(slices.Clone(coroutines[:]), i, i+1))
	}
	return l
}

// behind is a body of which the last block but three comes behind polls of some locals, and goes on, if it does, to the last ones.
func behind(t *testing.T, ahead []int, ins []api.In, end api.Tm) (b api.Body, block int) {
	t.Helper()
	b = body(t, "return #0")
	b.Blocks = nil
	for i, local := range ahead {
		b.Blocks = append(b.Blocks, api.Block{End: api.Tm{K: api.TmPoll, V: api.Value{S: api.Spot{Local: local}}, To: []int{i + 1}}})
	}
	block = len(b.Blocks)
	end.To = slices.Clone(end.To)
	for i := range end.To {
		end.To[i] += block
	}
	b.Blocks = append(b.Blocks, api.Block{Ins: ins, End: end})
	for range 3 {
		b.Blocks = append(b.Blocks, api.Block{End: api.Tm{K: api.TmReturn, U: api.Use{Num: true}}})
	}
	if b = placed(b); !mir.Valid(source(t, decls), b) {
		t.Fatalf("%s may not be", mir.Text(b))
	}
	return b, block
}

// after is what is polled behind a step, or an end.
func (x deed) after(ahead []int) []int {
	left := slices.DeleteFunc(slices.Clone(ahead), func(local int) bool { return slices.Contains(x.takes, local) })
	return append(left, x.polls...)
}

// flags are locals as such.
func flags(locals []int, n int) []bool {
	l := make([]bool, n)
	for _, local := range locals {
		l[local] = true
	}
	return l
}

// TestPlaces: each kind of step, and of end, where none, one, or all are polled ahead of it: what is polled behind it, and whether it is told to move what is pinned.
func TestPlaces(t *testing.T) {
	s := source(t, decls)
	all := built(t, s)
	back := api.Tm{K: api.TmReturn, U: api.Use{Num: true}}
	for _, ahead := range rows() {
		for _, x := range steps() {
			b, block := behind(t, ahead, []api.In{step(t, x.line)}, back)
			isBetween(t, x, s, b, block, ahead)
			if slices.ContainsFunc(x.moves, func(local int) bool { return isOfS(local) && slices.Contains(ahead, local) }) {
				checked(t, x.line, s, all, b, api.ErrPin, b.Blocks[block].Ins[0].At)
			} else {
				checked(t, x.line, s, all, b, api.OK, 0)
			}
		}
		for _, x := range ends() {
			b, block := behind(t, ahead, nil, end(t, x.line))
			isBetween(t, x, s, b, block, ahead)
			checked(t, x.line, s, all, b, api.OK, 0)
		}
	}
}

// isBetween fails, if something else may be polled ahead of the first place of a block, or behind that.
func isBetween(t *testing.T, x deed, s api.Source, b api.Body, block int, ahead []int) {
	t.Helper()
	n := len(b.Locals)
	want := names(b, flags(ahead, n)) + " " + names(b, flags(x.after(ahead), n))
	states := pins.Polled(s, b)[block]
	is(t, x.line+" behind "+names(b, flags(ahead, n)), names(b, states[0])+" "+names(b, states[1]), want)
}

// TestAllPolled: what is polled goes on to each block to which an end goes.
func TestAllPolled(t *testing.T) {
	s := source(t, decls)
	for _, x := range ends() {
		b, block := behind(t, coroutines[:], nil, end(t, x.line))
		want := names(b, flags(x.after(coroutines[:]), len(b.Locals)))
		l := pins.Polled(s, b)
		for _, to := range b.Blocks[block].End.To {
			is(t, x.line, names(b, l[to][0])+" "+names(b, l[to][1]), want+" "+want)
		}
	}
}
