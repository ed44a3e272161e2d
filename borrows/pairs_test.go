package borrows_test

import (
	"strings"
	"testing"

	"cocoon/api"
)

// line is one of known's locals, and the deeds that it does: `r` reads a spot, `l` lends it, `m` moves, `w` writes, `e` ends it.
type line struct{ text, deeds string }

func lines() []line {
	return []line{
		{"live 0", ""},
		{"live 3", ""},
		{"live 13", ""},
		{"dead 0", "e0"},
		{"dead 2", "e2"},
		{"dead 9", "e9"},
		{"dead 10", "e10"},
		{"dead 13", "e13"},
		{"dead 14", "e14"},
		{"end 0", "e0"},
		{"end 12", "e12"},
		{"end 13", "e13"},
		{"end 11", "e11"},
		{"drop 0", "e0"},
		{"drop 2", "e2"},
		{"drop 9", "e9"},
		{"drop 10", "e10"},
		{"drop 13", "e13"},
		{"drop 16", "e16"},
		// references
		{"dead 3", ""},
		{"dead 5", ""},
		{"dead 7", ""},
		{"dead 8", ""},
		{"end 3", ""},
		{"end 5", ""},
		{"end 8", ""},
		{"drop 3", ""},
		{"drop 5", ""},
		{"drop 7", ""},
		{"drop 8", ""},
		{"print #1", ""},
		{"print copy 0", "r0"},
		{"print copy 2.1", "r2.1"},
		{"print copy 3.-1", "r3.-1"},
		{"print copy 5.-1", "r5.-1"},
		{"print copy 8.-1.0", "r8.-1.0"},
		{"print copy 10.-1.0", "r10.-1.0"},
		{"print copy 12.1.0", "r12.1.0"},
		{"print copy 13.0", "r13.0"},
		{"print copy 14.-1", "r14.-1"},
		{"open 9 0 -1", "m9"},
		{"open 9 1 0", "m9"}, // what it sets is not written
		{"open 9 2 13", "m9"},
		{"set 0 = 0 0 0 #1", "w0"},
		{"set 0 = 0 0 0 copy 0", "r0 w0"},
		{"set 0 = 0 0 0 copy 3.-1", "r3.-1 w0"},
		{"set 1 = 0 0 0 copy 5.-1", "r5.-1 w1"},
		{"set 37 = 0 0 0 copy 8.-1.1", "r8.-1.1 w37"},
		{"set 2 = 0 0 0 move 2", "m2 w2"},
		{"set 13 = 0 0 0 move 13", "m13 w13"},
		{"set 9 = 0 0 0 move 9", "m9 w9"},
		{"set 11 = 0 0 0 move 11", "m11 w11"},
		// many uses
		{"set 0 = 1 0 0 copy 1 copy 2.0", "r1 r2.0 w0"},
		{"set 1 = 2 0 0 copy 3.-1 #1", "r3.-1 w1"},
		{"set 1 = 3 0 0 #1 copy 10.-1.0", "r10.-1.0 w1"},
		{"set 1 = 4 0 0 copy 0 copy 0", "r0 w1"},
		{"set 1 = 5 0 0 copy 8.-1.0 copy 0", "r8.-1.0 r0 w1"},
		{"set 2 = 10 0 0 copy 0 #1", "r0 w2"},
		{"set 13 = 10 1 0 copy 2.0", "r2.0 w13"},
		{"set 12 = 10 2 0 move 13 move 2", "m13 m2 w12"},
		{"set 15 = 10 3 0 copy 0 move 13", "r0 m13 w15"},
		{"set 15 = 10 3 0 copy 8.-1.1 move 13", "r8.-1.1 m13 w15"},
		{"set 9 = 11 0 0", "w9"},
		{"set 9 = 11 0 1 copy 0", "r0 w9"},
		{"set 9 = 11 0 2 move 13", "m13 w9"},
		{"set 11 = 12 0 0 copy 5.-1", "r5.-1 w11"},
		{"set 16 = 12 1 0 move 13 copy 0", "m13 r0 w16"},
		{"set 14 = 8 0 0 copy 0", "r0 w14"},
		{"set 14 = 8 0 0 #3", "w14"},
		{"set 10 = 8 0 0 move 2", "m2 w10"},
		{"set 2 = 9 0 0 10", "m10 w2"},
		{"set 0 = 9 0 0 14", "m14 w0"},
		// spots with steps
		{"set 2.0 = 0 0 0 #1", "w2.0"},
		{"set 2.1 = 0 0 0 copy 2.0", "r2.0 w2.1"},
		{"set 12.1.0 = 0 0 0 #1", "w12.1.0"},
		{"set 12.0.0 = 1 0 0 copy 0 copy 12.1.0", "r0 r12.1.0 w12.0.0"},
		{"set 13.0 = 0 0 0 #1", "w13.0"},
		{"set 5.-1 = 0 0 0 #1", "w5.-1"},
		{"set 8.-1.1 = 0 0 0 copy 8.-1.0", "r8.-1.0 w8.-1.1"},
		{"set 10.-1.0 = 0 0 0 #1", "w10.-1.0"},
		{"set 14.-1 = 0 0 0 #1", "w14.-1"},
		{"set 14.-1 = 9 0 0 14", "m14 w14.-1"},
		{"set 5.-1 = 9 0 0 14", "m14 w5.-1"},
		{"set 15.1.0 = 0 0 0 copy 15.0", "r15.0 w15.1.0"},
		// references
		{"set 3 = 0 0 0 copy 4", "r4"},
		{"set 3 = 0 0 0 copy 3", "r3"},
		{"set 5 = 0 0 0 move 6", "m6"},
		{"set 6 = 0 0 0 move 5", "m5"},
		{"set 8 = 0 0 0 move 8", "m8"},
		{"set 3 = 6 0 0 0", "r0"},
		{"set 3 = 6 0 0 37", "r37"},
		{"set 3 = 6 0 0 2.1", "r2.1"},
		{"set 3 = 6 0 0 12.1.0", "r12.1.0"},
		{"set 3 = 6 0 0 10.-1.0", "r10.-1.0"},
		{"set 3 = 6 0 0 4.-1", "r4.-1"},
		{"set 3 = 6 0 0 5.-1", "r5.-1"},
		{"set 4 = 6 0 0 8.-1.1", "r8.-1.1"},
		{"set 7 = 6 0 0 2", "r2"},
		{"set 7 = 6 0 0 12.1", "r12.1"},
		{"set 7 = 6 0 0 10.-1", "r10.-1"},
		{"set 7 = 6 0 0 8.-1", "r8.-1"},
		{"set 5 = 7 0 0 0", "l0"},
		{"set 5 = 7 0 0 2.0", "l2.0"},
		{"set 5 = 7 0 0 10.-1.1", "l10.-1.1"},
		{"set 5 = 7 0 0 14.-1", "l14.-1"},
		{"set 5 = 7 0 0 5.-1", "l5.-1"},
		{"set 6 = 7 0 0 8.-1.0", "l8.-1.0"},
		{"set 8 = 7 0 0 2", "l2"},
		{"set 8 = 7 0 0 12.1", "l12.1"},
		{"set 8 = 7 0 0 10.-1", "l10.-1"},
	}
}

// ends are such as go to block 2, as often as they go somewhere.
func ends() []line {
	return []line{
		{"goto 2", ""},
		{"if copy 0 2 2", "r0"},
		{"if copy 8.-1.1 2 2", "r8.-1.1"},
		{"if #1 2 2", ""},
		{"match 9 2 2 2", "r9"},
		{"return copy 0", "r0"},
		{"return copy 5.-1", "r5.-1"},
		{"return #1", ""},
		{"yield copy 2.1 2", "r2.1"},
		{"yield copy 0 2", "r0"},
		{"yield copy 37 2", "r37"},
		{"yield copy 13.0 2", "r13.0"},
		{"yield #0 2", ""},
		{"await 0 11 2", "m11 w0"},
		{"await 2.1 11 2", "m11 w2.1"},
		{"await 5.-1 16 2", "m16 w5.-1"},
		{"poll 0 11 2", "m11 w0"},
		{"poll 37 16 2", "m16 w37"},
		{"poll 8.-1.1 11 2", "m11 w8.-1.1"},
		{"wait 0 copy 1 2", "r1 w0"},
		{"wait 0 #1 2", "w0"},
		{"wait 12.1.1 copy 0 2", "r0 w12.1.1"},
		{"wait 5.-1 copy 0 2", "r0 w5.-1"},
		{"wait 10.-1.0 copy 5.-1 2", "r5.-1 w10.-1.0"},
	}
}

// pair is a line that makes a loan, with who holds that, of which spot it is, and whether that may be changed by it.
type pair struct {
	text   string
	holder int
	spot   string
	mut    bool
}

// pairs are loans of many spots, each by a holder that no line of lines changes.
func pairs() []pair {
	var l []pair
	add := func(holder int, spots string, shared bool) {
		for _, x := range strings.Fields(spots) {
			if shared {
				l = append(l, pair{"set " + itoa(holder) + " = 6 0 0 " + x, holder, x, false})
			}
			l = append(l, pair{"set " + itoa(holder+1) + " = 7 0 0 " + x, holder + 1, x, true})
		}
	}
	add(17, "0 1 37 2.0 2.1 5.-1 6.-1 8.-1.0 8.-1.1 10.-1.0 10.-1.1 12.0.0 12.1.0 12.1.1 13.0 14.-1 15.0 15.1.0", true)
	add(19, "2 8.-1 10.-1 12.1", true)
	add(21, "9", true)
	add(23, "10", true)
	add(25, "11", true)
	add(27, "12", true)
	add(29, "12.0 13 15.1", true)
	add(31, "14", true)
	add(33, "15", true)
	add(35, "16", true)
	for _, x := range []string{"3.-1", "4.-1", "7.-1.0"} { // a shared one is not changed through
		l = append(l, pair{"set 17 = 6 0 0 " + x, 17, x, false})
	}
	return l
}

// bars tells whether a loan bars one of the deeds, if it is active ahead of them and behind.
func (x pair) bars(deeds string) bool {
	barred := false
	for _, d := range strings.Fields(deeds) {
		kind, spot := d[0], d[1:]
		overlap := strings.HasPrefix(spot+".", x.spot+".") || strings.HasPrefix(x.spot+".", spot+".")
		local, _, _ := strings.Cut(spot, ".")
		lent, _, _ := strings.Cut(x.spot, ".")
		switch kind {
		case 'r':
			barred = barred || overlap && x.mut
		case 'l', 'w':
			barred = barred || overlap
		case 'm', 'e':
			barred = barred || local == lent
		}
	}
	return barred
}

// joined are two or more bodies' steps, one behind the other.
func joined(l ...[]api.In) []api.In {
	var all []api.In
	for _, x := range l {
		all = append(all, x...)
	}
	return all
}

// looker asks about a place of a body behind a loan.
type looker struct {
	*testing.T
	api.Source
	empty api.Body
	pairs []pair
	made  map[string]api.In // the step of each of them
	seen  map[string]int
}

func newLooker(t *testing.T) looker {
	t.Helper()
	x := looker{t, source(t, decls), body(t, "return #0"), pairs(), map[string]api.In{}, map[string]int{}}
	for _, p := range x.pairs {
		x.made[p.text] = step(t, p.text)
	}
	return x
}

// asks fails, if a place is not told to be barred, or to be so. It stands in block 1, behind a block that makes a loan; its end, or a goto, goes to block 2.
func (x looker) asks(about string, made []api.In, steps []api.In, end api.Tm, behind []api.In, barred bool) {
	x.Helper()
	b := cloned(x.empty)
	b.Blocks = []api.Block{
		{Ins: made, End: api.Tm{K: api.TmGoto, To: []int{1}}},
		{Ins: steps, End: end},
		{Ins: behind, End: api.Tm{K: api.TmReturn, U: api.Use{Num: true}}},
	}
	b = placed(cloned(b))
	want, at := api.OK, 0
	if barred {
		want, at = api.ErrBorrow, where(b, 1, 0)
	}
	x.seen[about[:3]+itoa(int(want))]++
	checked(x.T, about, x.Source, b, want, at)
}

// all asks about a place, behind a loan that is used later, and behind such as are not.
func (x looker) all(l line, steps []api.In, end api.Tm) {
	x.Helper()
	for _, p := range x.pairs {
		made := []api.In{x.made[p.text]}
		used := []api.In{{K: api.InDrop, S: api.Spot{Local: p.holder}}}
		ended := []api.In{{K: api.InDead, S: api.Spot{Local: p.holder}}}
		about := l.text + ", behind " + p.text
		barred := p.bars(l.deeds) && end.K != api.TmReturn // nothing is used behind a return
		x.asks(about+", which is used later", made, steps, end, used, barred)
		x.asks(about+", which is used no more", made, steps, end, nil, false)
		x.asks(about+", which ended", joined(made, ended), steps, end, used, false)
		x.asks(about+", which ends", made, steps, end, joined(ended, used), false)
	}
}

// TestPairs holds each kind of step and of end against loans of many spots.
func TestPairs(t *testing.T) {
	x := newLooker(t)
	for _, l := range lines() {
		x.all(l, []api.In{step(t, l.text)}, api.Tm{K: api.TmGoto, To: []int{2}})
	}
	for _, l := range ends() {
		x.all(l, nil, end(t, l.text))
	}
	for _, word := range strings.Fields("dea end dro pri ope set if mat yie awa pol wai") {
		word += strings.Repeat(" ", 3-len(word))
		for _, err := range []api.Errno{api.OK, api.ErrBorrow} {
			if n := x.seen[word+itoa(int(err))]; n == 0 {
				t.Errorf("%v is told of no %s", err, word)
			}
		}
	}
}

// TestKinds: no kind of step, of end, or of what is set is missing among those that are held against all.
func TestKinds(t *testing.T) {
	got := map[string]int{}
	for _, x := range lines() {
		in := step(t, x.text)
		got["step "+itoa(int(in.K))]++
		if in.K == api.InSet {
			got["value "+itoa(int(in.V.K))]++
		}
	}
	for _, x := range ends() {
		got["end "+itoa(int(end(t, x.text).K))]++
	}
	for word, n := range map[string]int{"step ": int(api.InOpen), "value ": int(api.RvStart), "end ": int(api.TmWait)} {
		for k := range n + 1 {
			if got[word+itoa(k)] == 0 {
				t.Errorf("there is no %s%d", word, k)
			}
		}
	}
}
