package moves_test

import (
	"testing"

	"cocoon/api"
	"cocoon/moves"
)

// TestFirst: of several faults the first one is told, block by block, step by step; when that is mended, the next one.
func TestFirst(t *testing.T) {
	s := source(t, decls)
	b := body(t,
		"dead 1; if #1 5 2",
		"drop 1; return copy 13", // nothing goes there
		"drop 1; print copy 13; drop 2; drop 2; match 4 3 3 4",
		"dead 4; if copy 13 4 4",
		"set 10 = 0 0 0 move 10; set 8 = 12 0 0 #1; return copy 13",
		"drop 1; goto 6",
		"wait 3.1 copy 13 4",
	)
	at := 500 // it falls, so that the least one is not the first one
	for i := range b.Blocks {
		for j := range b.Blocks[i].Ins {
			at -= 30
			b.Blocks[i].Ins[j].At = at
		}
		at -= 30
		b.Blocks[i].End.At = at
	}
	number := api.Use{Num: true, N: 1}
	for _, x := range [][2]int{{2, 0}, {2, 1}, {2, 3}, {3, 1}, {4, 1}, {4, 2}, {5, 0}, {6, 0}} {
		block := &b.Blocks[x[0]]
		if step := x[1]; step < len(block.Ins) {
			checked(t, "a step", s, b, api.ErrMoved, block.Ins[step].At)
			block.Ins[step] = api.In{K: api.InPrint, U: number}
		} else {
			checked(t, "an end", s, b, api.ErrMoved, block.End.At)
			block.End.U = number
		}
	}
	checked(t, "all is mended", s, b, api.OK, 0)
}

// TestOrder: blocks stand as they were made, and not as their statements do.
func TestOrder(t *testing.T) {
	for _, text := range []string{
		"if n { drop d; ^drop d; yield 1; } else { drop e; drop e; }",
		"if n { yield 1; drop d; drop d; } else { drop e; ^drop e; }", // behind the yield stands a block more
		"if n { yield 1; drop d; ^drop d; } else { drop e; }",
		"while n { drop d; d = D(1); drop e; e = E::A; ^d = D(1); } drop e; drop e;",
		"while n { yield 1; drop d; drop d; } drop e; ^drop e;",
		"while n { yield 1; ^drop d; } drop e;",
	} {
		isMarked(t, head+text+" return 0; }")
	}
}

// TestNotReached: blocks that nothing goes to are not looked at, nor does it count what comes from them.
func TestNotReached(t *testing.T) {
	s := source(t, decls)
	for _, x := range []struct {
		blocks []string
		want   api.Errno
	}{
		{[]string{"goto 2", "drop 1; drop 1; return copy 13", "drop 1; return #0"}, api.OK},
		{[]string{"goto 2", "drop 1; goto 2", "drop 1; return #0"}, api.OK},
		{[]string{"if #1 1 2", "drop 1; goto 2", "drop 1; return #0"}, api.ErrMoved},
		{[]string{"goto 2", "set 1 = 10 1 0 #0; goto 2", "drop 1; set 1 = 10 1 0 #0; return #0"}, api.OK},
		{[]string{"drop 1; goto 2", "set 1 = 10 1 0 #0; goto 2", "set 1 = 10 1 0 #0; return #0"}, api.OK},
		{[]string{"drop 1; if #1 1 2", "set 1 = 10 1 0 #0; goto 2", "set 1 = 10 1 0 #0; return #0"}, api.ErrMoved},
		{[]string{"drop 1; return #0", "drop 1; goto 0"}, api.OK},
		{[]string{"drop 1; if #1 1 1", "drop 2; goto 0"}, api.ErrMoved},
		{[]string{"return #0", "print copy 13; goto 2", "drop 1; goto 1"}, api.OK},
	} {
		b := body(t, x.blocks...)
		err, at := moves.Check(s, b)
		if err != x.want || at != 0 {
			t.Errorf("%q: %v at %d, want %v", x.blocks, err, at, x.want)
		}
	}
}

// TestAt: a fault is told where its step, or its end, stands, wherever that is.
func TestAt(t *testing.T) {
	s := source(t, decls)
	for _, at := range []int{0, 1, -1, 77, 1<<63 - 1, -1 << 63} {
		b := body(t, "drop 1; drop 1; return #0")
		b.Blocks[0].Ins[0].At, b.Blocks[0].Ins[1].At, b.Blocks[0].End.At = 5, at, 6
		checked(t, "a step", s, b, api.ErrMoved, at)
		b = body(t, "drop 1; return copy 13")
		b.Blocks[0].Ins[0].At, b.Blocks[0].End.At = 5, at
		checked(t, "an end", s, b, api.ErrMoved, at)
	}
}

// TestNotValid: of what may not be nothing is told, whatever else is wrong.
func TestNotValid(t *testing.T) {
	s := source(t, decls)
	for about, change := range map[string]func(b *api.Body){
		"no block":                  func(b *api.Body) { b.Blocks = nil },
		"no local":                  func(b *api.Body) { b.Locals = nil },
		"a result with a name":      func(b *api.Body) { b.Locals[13].Name = "x" },
		"too many handed in":        func(b *api.Body) { b.Params = 14 },
		"fewer than none":           func(b *api.Body) { b.Params = -1 },
		"very many":                 func(b *api.Body) { b.Params = 1 << 62 },
		"an enum as a struct":       func(b *api.Body) { b.Locals[4].Ty.K = api.TyStruct },
		"a type of no kind":         func(b *api.Body) { b.Locals[0].Ty.K = 99 },
		"no such local":             func(b *api.Body) { b.Blocks[0].Ins[0].S.Local = 99 },
		"a local below 0":           func(b *api.Body) { b.Blocks[0].Ins[0].S.Local = -1 },
		"a drop of a part":          func(b *api.Body) { b.Blocks[0].Ins[0].S.Path = []int{0} },
		"what is moved is copied":   func(b *api.Body) { b.Blocks[0].Ins[2].V.Uses[0].Move = false },
		"no such use":               func(b *api.Body) { b.Blocks[0].Ins[2].V.Uses[0].S.Local = 1 << 40 },
		"no use":                    func(b *api.Body) { b.Blocks[0].Ins[2].V.Uses = nil },
		"a variant that holds more": func(b *api.Body) { b.Blocks[1].Ins[0].V.S.Local = 0 },
		"nowhere":                   func(b *api.Body) { b.Blocks[1].End.To[0] = 3 },
		"no way":                    func(b *api.Body) { b.Blocks[1].End.To = nil },
		"what is not reached":       func(b *api.Body) { b.Blocks[2].End.U.S.Local = 14 },
		"a step of no kind":         func(b *api.Body) { b.Blocks[0].Ins[1] = api.In{K: 6} },
		"an end of no kind":         func(b *api.Body) { b.Blocks[0].End = api.Tm{K: -1} },
		"nothing":                   func(b *api.Body) { *b = api.Body{} },
	} {
		b := body(t, "drop 1; drop 1; set 1 = 0 0 0 move 2; goto 1", "open 4 0 -1; wait 0 #1 0", "return copy 13")
		b.Blocks[0].Ins[0].At, b.Blocks[0].Ins[1].At = 4, 5
		checked(t, "ahead of "+about, s, b, api.ErrMoved, 5)
		change(&b)
		isRefused(t, about, s, b)
	}
	b := body(t, "return #0")
	isRefused(t, "items of another source", api.Source{}, b)
	isRefused(t, "nothing of nothing", api.Source{}, api.Body{})
}

// isRefused fails, if something is told of a body that may not be.
func isRefused(t *testing.T, about string, s api.Source, b api.Body) {
	t.Helper()
	checked(t, about, s, b, api.ErrMir, 0)
	if may, must := moves.May(s, b), moves.Must(s, b); may != nil || must != nil {
		t.Errorf("%s: %s, %s", about, states(may), states(must))
	}
}
