package borrows_test

import (
	"testing"

	"cocoon/api"
	"cocoon/borrows"
)

// TestOne: bodies of a few steps, a `^` ahead of what is barred.
func TestOne(t *testing.T) {
	for _, x := range []struct {
		about  string
		blocks []string
	}{
		{"a read, and a loan that is used in this step alone", []string{"set 5 = 7 0 0 0; ^set 1 = 1 0 0 copy 0 copy 5.-1; return #0"}},
		{"so the other way round", []string{"set 5 = 7 0 0 0; ^set 1 = 1 0 0 copy 5.-1 copy 0; return #0"}},
		{"a shared one", []string{"set 3 = 6 0 0 0; set 1 = 1 0 0 copy 0 copy 3.-1; return #0"}},
		{"a read of a wait, whose spot is of the loan", []string{"set 5 = 7 0 0 0; ^wait 5.-1 copy 0 1", "return #0"}},
		{"a read of a return, of what was made of itself", []string{"set 5 = 7 0 0 5.-1; ^return copy 5.-1"}},
		{"a read of a shared one that was made of itself", []string{"set 3 = 6 0 0 3.-1; return copy 3.-1"}},
		{"a read by a loan that is made of itself", []string{"set 3 = 6 0 0 5.-1; set 5 = 7 0 0 5.-1; ^set 3 = 6 0 0 5.-1; return copy 3.-1"}},
		{"a loan by which it may be changed does not bar itself", []string{"set 5 = 7 0 0 0; set 5.-1 = 0 0 0 #1; return #0"}},
		{"nor that which it takes the place of", []string{"set 5 = 7 0 0 0; set 5 = 7 0 0 0; set 5.-1 = 0 0 0 #1; return #0"}},
		{"but one of which it is made", []string{"set 5 = 7 0 0 5.-1; ^set 5 = 7 0 0 5.-1; return #0"}},
		{"and another one that is held, too", []string{"set 5 = 7 0 0 0; set 3 = 6 0 0 5.-1; ^set 5 = 7 0 0 0; return copy 3.-1"}},
		{"a move, and a loan that is used in this step alone", []string{"set 3 = 6 0 0 13.0; ^set 15 = 10 3 0 copy 3.-1 move 13; return #0"}},
		{"so of what is unboxed", []string{"set 5 = 7 0 0 14.-1; ^set 5.-1 = 9 0 0 14; return #0"}},
		{"a move of what is used no more", []string{"set 3 = 6 0 0 13.0; set 15 = 10 3 0 #1 move 13; return #0"}},
		{"a move of a reference that was made of itself", []string{"set 5 = 7 0 0 5.-1; ^set 6 = 0 0 0 move 5; return copy 6.-1"}},
		{"a move of a reference of which another one is made", []string{"set 5 = 7 0 0 0; set 6 = 7 0 0 5.-1; ^set 18 = 0 0 0 move 5; set 6.-1 = 0 0 0 #1; return #0"}},
		{"a copy of a reference of which another one is made", []string{"set 3 = 6 0 0 0; set 4 = 6 0 0 3.-1; set 17 = 0 0 0 copy 3; return copy 4.-1"}},
		{"a write, and a loan that is used in this step alone", []string{"set 3 = 6 0 0 0; set 0 = 1 0 0 copy 3.-1 #1; return #0"}},
		{"so of a wait", []string{"set 3 = 6 0 0 0; wait 0 copy 3.-1 1", "return #0"}},
		{"a wait, and a loan that is used behind it", []string{"set 3 = 6 0 0 0; ^wait 0 copy 3.-1 1", "return copy 3.-1"}},
		{"a write of what a reference is of", []string{"set 5 = 7 0 0 0; set 6 = 7 0 0 5.-1; ^set 5.-1 = 0 0 0 #1; return copy 6.-1"}},
		{"by the one that was made of it", []string{"set 5 = 7 0 0 0; set 6 = 7 0 0 5.-1; set 6.-1 = 0 0 0 #1; return copy 5.-1"}},
		{"a write of a reference of which another one is made", []string{"set 5 = 7 0 0 0; set 6 = 7 0 0 5.-1; set 5 = 7 0 0 1; set 6.-1 = 0 0 0 #1; return copy 5.-1"}},
		{"a write of what an open sets", []string{"set 3 = 6 0 0 0; open 9 1 0; return copy 3.-1"}},
		{"a drop of a reference that was made of itself", []string{"set 5 = 7 0 0 5.-1; drop 5; return #0"}},
		{"a drop of a reference of which another one is made", []string{"set 5 = 7 0 0 0; set 6 = 7 0 0 5.-1; drop 5; end 5; dead 5; return copy 6.-1"}},
		{"so of a shared one", []string{"set 3 = 6 0 0 0; set 4 = 6 0 0 3.-1; drop 3; end 3; dead 3; return copy 4.-1"}},
		{"an end of what both are of", []string{"set 5 = 7 0 0 0; set 6 = 7 0 0 5.-1; dead 5; ^dead 0; return copy 6.-1"}},
		{"an end of what is used no more", []string{"set 3 = 6 0 0 0; print copy 3.-1; drop 0; end 0; dead 0; return #0"}},
		{"a local begins that is lent", []string{"set 3 = 6 0 0 0; live 0; return copy 3.-1"}},
	} {
		isBarred(t, x.about, x.blocks...)
	}
}

// TestOpenBehind: what an enum is opened into may hold, behind that, a loan of the enum. No check would take such an enum, but a body of it may be.
func TestOpenBehind(t *testing.T) {
	s := source(t, "enum V { A(&V), B }")
	const locals = "f 0\n\t0 v V\n\t1 r &V\n\t2  int\n"
	b := placed(read(t, s, locals+told("set 1 = 6 0 0 0; open 0 0 1; end 1; return #0")))
	is(t, "active", active(b, asked(s, b)), "-; -; 0; -; -")
	checked(t, "used later", s, b, api.ErrBorrow, where(b, 0, 1))
	b = placed(read(t, s, locals+told("set 1 = 6 0 0 0; open 0 0 1; dead 1; end 1; return #0")))
	checked(t, "ended", s, b, api.OK, 0)
	b = placed(read(t, s, locals+told("set 1 = 6 0 0 0; open 0 1 -1; return #0")))
	checked(t, "used no more", s, b, api.OK, 0)
}

// TestHeldByTwo: a loan that two hold bars as long as one of them is used later.
func TestHeldByTwo(t *testing.T) {
	const both = "set 3 = 6 0 0 0; set 4 = 0 0 0 copy 3; "
	isBarred(t, "the first one", both+"^set 0 = 0 0 0 #1; return copy 3.-1")
	isBarred(t, "the second one", both+"^set 0 = 0 0 0 #1; return copy 4.-1")
	isBarred(t, "both", both+"print copy 3.-1; ^set 0 = 0 0 0 #1; return copy 4.-1")
	isBarred(t, "none", both+"print copy 3.-1; print copy 4.-1; set 0 = 0 0 0 #1; return #0")
	isBarred(t, "one that holds another one now", both+"set 4 = 6 0 0 1; set 0 = 0 0 0 #1; return copy 4.-1")
	isBarred(t, "the other one", both+"set 4 = 6 0 0 1; ^set 0 = 0 0 0 #1; print copy 4.-1; return copy 3.-1")
	isBarred(t, "one that ended", both+"dead 3; ^set 0 = 0 0 0 #1; return copy 4.-1")
	isBarred(t, "both ended", both+"dead 3; dead 4; set 0 = 0 0 0 #1; return #0")
	isBarred(t, "on two ways", both+"if #1 1 2", "^set 0 = 0 0 0 #1; return copy 3.-1", "dead 3; return copy 4.-1")
	isBarred(t, "on one of them", both+"if #1 1 2", "dead 3; return copy 4.-1", "dead 4; ^set 0 = 0 0 0 #1; return copy 3.-1")
}

// TestBehindWays: a local comes to hold a loan on one way alone, or is used on one way alone.
func TestBehindWays(t *testing.T) {
	const set = "set 0 = 0 0 0 #1; "
	for _, x := range []struct {
		about  string
		blocks []string
	}{
		{"held on the first way", []string{"if #1 1 2", "set 3 = 6 0 0 0; goto 3", "set 3 = 6 0 0 1; goto 3", "^" + set + "return copy 3.-1"}},
		{"held on the second way", []string{"if #1 1 2", "set 3 = 6 0 0 1; goto 3", "set 3 = 6 0 0 0; goto 3", "^" + set + "return copy 3.-1"}},
		{"held on none", []string{"if #1 1 2", "set 3 = 6 0 0 1; goto 3", "set 3 = 6 0 0 2.0; goto 3", set + "return copy 3.-1"}},
		{"lost on one way", []string{"set 3 = 6 0 0 0; if #1 1 2", "dead 3; goto 2", "^" + set + "return copy 3.-1"}},
		{"lost on both", []string{"set 3 = 6 0 0 0; if #1 1 2", "dead 3; goto 3", "set 3 = 6 0 0 1; goto 3", set + "return copy 3.-1"}},
		{"used on one way", []string{"set 3 = 6 0 0 0; ^set 0 = 0 0 0 #1; if #1 1 2", "return copy 3.-1", "return #0"}},
		{"set on the way on which it is not used", []string{"set 3 = 6 0 0 0; if #1 1 2", "return copy 3.-1", set + "return #0"}},
		{"held behind a match", []string{"match 9 1 2 3", "open 9 0 -1; goto 4", "open 9 1 0; set 3 = 6 0 0 0; goto 4", "goto 4", "^" + set + "return copy 3.-1"}},
		{"used in an arm", []string{"set 3 = 6 0 0 0; match 9 1 2 3", "open 9 0 -1; ^" + set + "return copy 3.-1", "open 9 1 1; " + set + "return #0", "return copy 3.-1"}},
		{"a while that sets what it lent", []string{"goto 1", "if #1 2 3", "print copy 3.-1; set 3 = 6 0 0 0; ^set 0 = 0 0 0 #1; goto 1", "return #0"}},
		{"a while that uses it no more", []string{"goto 1", "if #1 2 3", "set 3 = 6 0 0 0; print copy 3.-1; set 0 = 0 0 0 #1; goto 1", "return #0"}},
		{"a while that sets what it will lend", []string{"goto 1", "if #1 2 3", set + "set 3 = 6 0 0 0; print copy 3.-1; goto 1", "return #0"}},
		{"a ring of one", []string{"print copy 3.-1; set 3 = 6 0 0 0; ^set 0 = 0 0 0 #1; goto 0"}},
		{"a ring that loses it", []string{"set 3 = 6 0 0 0; print copy 3.-1; set 0 = 0 0 0 #1; goto 0"}},
		{"a ring of two, across which it is held", []string{"set 5 = 7 0 0 0; goto 1", "^print copy 0; yield #1 2", "print copy 5.-1; goto 0"}},
	} {
		isBarred(t, x.about, x.blocks...)
	}
}

// TestFirst: of all that is barred the first one is told, block by block, step by step; when that is mended, the next one.
func TestFirst(t *testing.T) {
	s := source(t, decls)
	b := placed(body(t,
		"set 5 = 7 0 0 0; set 3 = 6 0 0 2.0; if #1 5 2",
		"dead 0; dead 2; return copy 5.-1", // nothing goes there
		"print copy 0; print copy 1; dead 0; set 2.0 = 0 0 0 #1; match 9 3 3 4",
		"set 2 = 0 0 0 move 2; if copy 0 4 4",
		"set 6 = 7 0 0 0; print copy 3.-1; return copy 5.-1",
		"drop 2; goto 6",
		"wait 2.0 copy 0 4",
	))
	for _, x := range [][2]int{{2, 0}, {2, 2}, {2, 3}, {3, 0}, {3, 1}, {4, 0}, {5, 0}, {6, 0}} {
		block := &b.Blocks[x[0]]
		checked(t, "block "+itoa(x[0]), s, b, api.ErrBorrow, where(b, x[0], x[1]))
		if step := x[1]; step < len(block.Ins) {
			block.Ins[step] = api.In{K: api.InPrint, U: api.Use{Num: true}}
		} else {
			block.End = api.Tm{K: api.TmGoto, To: block.End.To[:1]}
		}
	}
	checked(t, "all is mended", s, b, api.OK, 0)
}

// TestNotReached: blocks that nothing goes to are not looked at, nor do their loans count elsewhere.
func TestNotReached(t *testing.T) {
	for _, blocks := range [][]string{
		{"return #0", "set 3 = 6 0 0 0; set 0 = 0 0 0 #1; return copy 3.-1"},
		{"goto 2", "set 3 = 6 0 0 0; goto 2", "set 0 = 0 0 0 #1; return copy 3.-1"},
		{"if #1 1 2", "set 3 = 6 0 0 0; goto 2", "^set 0 = 0 0 0 #1; return copy 3.-1"},
		{"set 3 = 6 0 0 0; goto 2", "print copy 3.-1; goto 2", "set 0 = 0 0 0 #1; return #0"},
		{"set 3 = 6 0 0 0; if #1 1 2", "print copy 3.-1; goto 0", "set 0 = 0 0 0 #1; return #0"},
		{"set 3 = 6 0 0 0; set 0 = 0 0 0 #1; return #0", "print copy 3.-1; goto 0"},
		{"goto 3", "set 0 = 0 0 0 #1; goto 2", "print copy 3.-1; goto 1", "set 3 = 6 0 0 0; return copy 3.-1"},
		{"goto 3", "^set 0 = 0 0 0 #1; goto 2", "print copy 3.-1; goto 1", "set 3 = 6 0 0 0; goto 2"},
	} {
		isBarred(t, blocks[0], blocks...)
	}
}

// TestAt: what is barred is told where its step, or its end, stands, wherever that is.
func TestAt(t *testing.T) {
	s := source(t, decls)
	for _, at := range []int{0, 1, -1, 77, 1<<63 - 1, -1 << 63} {
		b := body(t, "set 3 = 6 0 0 0; set 0 = 0 0 0 #1; return copy 3.-1")
		b.Blocks[0].Ins[0].At, b.Blocks[0].Ins[1].At, b.Blocks[0].End.At = 5, at, 6
		checked(t, "a step", s, b, api.ErrBorrow, at)
		b = body(t, "set 5 = 7 0 0 5.-1; return copy 5.-1")
		b.Blocks[0].Ins[0].At, b.Blocks[0].End.At = 5, at
		checked(t, "an end", s, b, api.ErrBorrow, at)
		b.Blocks[0].End.U = api.Use{Num: true}
		checked(t, "none", s, b, api.OK, 0)
	}
}

// TestNotValid: of what may not be nothing is told, whatever else is wrong.
func TestNotValid(t *testing.T) {
	s := source(t, decls)
	for about, change := range map[string]func(b *api.Body){
		"no block":                  func(b *api.Body) { b.Blocks = nil },
		"no local":                  func(b *api.Body) { b.Locals = nil },
		"a result with a name":      func(b *api.Body) { b.Locals[count-1].Name = "x" },
		"too many handed in":        func(b *api.Body) { b.Params = count },
		"fewer than none":           func(b *api.Body) { b.Params = -1 },
		"a reference to one":        func(b *api.Body) { b.Locals[4].Ty.L = []api.Ty{b.Locals[3].Ty} },
		"a reference to nothing":    func(b *api.Body) { b.Locals[4].Ty.L = nil },
		"a type of no kind":         func(b *api.Body) { b.Locals[0].Ty.K = 99 },
		"no such local":             func(b *api.Body) { b.Blocks[0].Ins[0].S.Local = 99 },
		"a local below 0":           func(b *api.Body) { b.Blocks[0].Ins[0].S.Local = -1 },
		"a loan of no local":        func(b *api.Body) { b.Blocks[0].Ins[0].V.S.Local = 99 },
		"a loan of no part":         func(b *api.Body) { b.Blocks[0].Ins[0].V.S.Path = []int{0} },
		"a loan of a reference":     func(b *api.Body) { b.Blocks[0].Ins[0].V.S.Local = 4 },
		"of another kind":           func(b *api.Body) { b.Blocks[0].Ins[0].V.K = api.RvMut },
		"no use":                    func(b *api.Body) { b.Blocks[0].Ins[1].V.Uses = nil },
		"what is moved is copied":   func(b *api.Body) { b.Blocks[0].Ins[2].V.Uses[0].Move = false },
		"a variant that holds more": func(b *api.Body) { b.Blocks[1].Ins[0].V.S.Local = 0 },
		"nowhere":                   func(b *api.Body) { b.Blocks[1].End.To[0] = 3 },
		"no way":                    func(b *api.Body) { b.Blocks[1].End.To = nil },
		"what is not reached":       func(b *api.Body) { b.Blocks[2].End.U.S.Local = count },
		"a step of no kind":         func(b *api.Body) { b.Blocks[0].Ins[1] = api.In{K: 6} },
		"an end of no kind":         func(b *api.Body) { b.Blocks[0].End = api.Tm{K: -1} },
		"nothing":                   func(b *api.Body) { *b = api.Body{} },
	} {
		b := placed(body(t, "set 3 = 6 0 0 0; set 0 = 0 0 0 #1; set 2 = 0 0 0 move 2; goto 1", "open 9 0 -1; wait 0 copy 3.-1 0", "return copy 37"))
		checked(t, "ahead of "+about, s, b, api.ErrBorrow, b.Blocks[0].Ins[1].At)
		change(&b)
		isRefused(t, about, s, b)
	}
	isRefused(t, "items of another source", api.Source{}, body(t, "return #0"))
	isRefused(t, "nothing of nothing", api.Source{}, api.Body{})
}

// isRefused fails, if something is told of a body that may not be.
func isRefused(t *testing.T, about string, s api.Source, b api.Body) {
	t.Helper()
	checked(t, about, s, b, api.ErrMir, 0)
	if l := borrows.Lent(s, b); l != nil {
		t.Errorf("%s: %v is lent", about, l)
	}
	for block := -1; block < 4; block++ {
		for step := -1; step < 6; step++ {
			if l := borrows.Active(s, b, block, step); len(l) > 0 {
				t.Errorf("%s: %v are active at %d:%d", about, l, block, step)
			}
		}
	}
}
