package pins_test

import (
	"slices"
	"testing"

	"cocoon/api"
	"cocoon/pins"
)

// TestFirst: of all moves of what is pinned the first one is told, block by block, step by step; when that is mended, the next one.
func TestFirst(t *testing.T) {
	s := source(t, decls)
	all := built(t, s)
	b := placed(body(t,
		"poll 0 2 5",
		"set 3 = 0 0 0 move 2; goto 2", // nothing goes there
		"set 7 = 8 0 0 move 2; print #1; set 6 = 11 0 1 move 3; match 6 3 3 4",
		"set 3 = 0 0 0 move 2; goto 4",
		"set 2 = 12 0 0 #1; set 12 = 12 2 0 move 3 #1 move 4; set 3 = 0 0 0 move 2; return #0",
		"set 13 = 0 0 0 move 2; poll 0 3 2",
	))
	for _, x := range [][2]int{{2, 0}, {2, 2}, {3, 0}, {4, 1}, {5, 0}} {
		in := &b.Blocks[x[0]].Ins[x[1]]
		checked(t, "block "+itoa(x[0]), s, all, b, api.ErrPin, in.At)
		*in = api.In{K: api.InPrint, U: api.Use{Num: true}}
	}
	checked(t, "all is mended", s, all, b, api.OK, 0)
}

// TestOrder: blocks stand as they were made, and not as their statements do.
func TestOrder(t *testing.T) {
	areMarked(t,
		"x = poll p; if x { ^e = E::B(p); p = p; } else { e = E::B(p); }",
		"x = poll p; if x { yield 1; e = E::B(p); } else { ^e = E::B(p); }", // behind the yield stands a block more
		"x = poll p; while x { yield 1; e = E::B(p); } ^e = E::B(p);",
		"x = poll p; while x { ^e = E::B(p); yield 1; } e = E::B(p);",
		"x = poll p; while x { yield 1; ^e = E::B(p); }",
	)
}

// TestNotReached: blocks that nothing goes to are not looked at, nor does it count what comes from them.
func TestNotReached(t *testing.T) {
	for _, blocks := range [][]string{
		{"return #0", "poll 0 2 2", "set 3 = 0 0 0 move 2; return #0"},
		{"poll 0 2 3", "set 3 = 0 0 0 move 2; goto 2", "set 3 = 0 0 0 move 2; goto 1", "return #0"},
		{"goto 2", "poll 0 2 2", "set 3 = 0 0 0 move 2; return #0"},
		{"if #1 1 2", "poll 0 2 2", "^set 3 = 0 0 0 move 2; return #0"},
		{"poll 0 2 2", "set 2 = 12 0 0 #1; goto 2", "^set 3 = 0 0 0 move 2; return #0"},
		{"poll 0 2 2", "poll 0 4 2", "set 5 = 0 0 0 move 4; return #0"},
		{"set 3 = 0 0 0 move 2; return #0", "poll 0 2 0"},
		{"^set 3 = 0 0 0 move 2; if #1 1 1", "poll 0 2 0"},
		{"set 3 = 0 0 0 move 2; poll 0 2 1", "return #0"},
		{"^set 3 = 0 0 0 move 2; poll 0 2 0"},
	} {
		isPinned(t, blocks[0], blocks...)
	}
}

// TestAt: what is pinned is told where the step stands that moves it, wherever that is.
func TestAt(t *testing.T) {
	s := source(t, decls)
	all := built(t, s)
	for _, at := range []int{0, 1, -1, 77, 1<<63 - 1, -1 << 63} {
		b := body(t, "poll 0 2 1", "print #1; set 3 = 0 0 0 move 2; return #0")
		b.Blocks[0].End.At, b.Blocks[1].Ins[0].At, b.Blocks[1].Ins[1].At, b.Blocks[1].End.At = 4, 5, at, 6
		checked(t, "a move", s, all, b, api.ErrPin, at)
		b.Blocks[1].Ins[1].V.Uses[0].S.Local = 13
		checked(t, "none", s, all, b, api.OK, 0)
	}
}

// TestNotValid: of what may not be nothing is told, whatever else is wrong.
func TestNotValid(t *testing.T) {
	s := source(t, decls)
	all := built(t, s)
	for about, change := range map[string]func(b *api.Body){
		"no block":                  func(b *api.Body) { b.Blocks = nil },
		"no local":                  func(b *api.Body) { b.Locals = nil },
		"a result with a name":      func(b *api.Body) { b.Locals[16].Name = "x" },
		"too many handed in":        func(b *api.Body) { b.Params = 17 },
		"fewer than none":           func(b *api.Body) { b.Params = -1 },
		"very many":                 func(b *api.Body) { b.Params = 1 << 62 },
		"an enum as a struct":       func(b *api.Body) { b.Locals[6].Ty.K = api.TyStruct },
		"no such coroutine":         func(b *api.Body) { b.Locals[2].Ty.Name, b.Locals[3].Ty.Name = "z", "z" },
		"another coroutine":         func(b *api.Body) { b.Locals[2].Ty.Name = "g" },
		"a type of no kind":         func(b *api.Body) { b.Locals[0].Ty.K = 99 },
		"no such local":             func(b *api.Body) { b.Blocks[1].Ins[0].S.Local = 99 },
		"a local below 0":           func(b *api.Body) { b.Blocks[1].Ins[0].S.Local = -1 },
		"a part of a coroutine":     func(b *api.Body) { b.Blocks[1].Ins[0].S.Path = []int{0} },
		"what is moved is copied":   func(b *api.Body) { b.Blocks[1].Ins[0].V.Uses[0].Move = false },
		"a number is moved":         func(b *api.Body) { b.Blocks[1].Ins[0].V.Uses[0].Num = true },
		"no such use":               func(b *api.Body) { b.Blocks[1].Ins[0].V.Uses[0].S.Local = 1 << 40 },
		"no use":                    func(b *api.Body) { b.Blocks[1].Ins[0].V.Uses = nil },
		"two uses":                  func(b *api.Body) { b.Blocks[1].Ins[0].V.Uses = slices.Repeat(b.Blocks[1].Ins[0].V.Uses, 2) },
		"a poll of a number":        func(b *api.Body) { b.Blocks[0].End.V.S.Local = 0 },
		"a poll of no local":        func(b *api.Body) { b.Blocks[0].End.V.S.Local = -1 },
		"a poll of a part":          func(b *api.Body) { b.Blocks[0].End.V.S.Path = []int{0} },
		"a poll that sets no int":   func(b *api.Body) { b.Blocks[0].End.S.Local = 2 },
		"a variant that holds more": func(b *api.Body) { b.Blocks[1].Ins[1].V.S.Local = 0 },
		"nowhere":                   func(b *api.Body) { b.Blocks[1].End.To[0] = 3 },
		"below the first block":     func(b *api.Body) { b.Blocks[1].End.To[0] = -1 },
		"no way":                    func(b *api.Body) { b.Blocks[1].End.To = nil },
		"what is not reached":       func(b *api.Body) { b.Blocks[2].End.U.S.Local = 17 },
		"a step of no kind":         func(b *api.Body) { b.Blocks[1].Ins[1] = api.In{K: 6} },
		"an end of no kind":         func(b *api.Body) { b.Blocks[0].End = api.Tm{K: -1} },
		"nothing":                   func(b *api.Body) { *b = api.Body{} },
	} {
		b := placed(body(t, "poll 0 2 1", "set 3 = 0 0 0 move 2; open 6 0 -1; wait 0 #1 0", "return copy 16"))
		checked(t, "ahead of "+about, s, all, b, api.ErrPin, b.Blocks[1].Ins[0].At)
		if !pins.Unpin(s, b) {
			t.Errorf("ahead of %s: it holds nothing of its own", about)
		}
		change(&b)
		isRefused(t, about, s, all, b)
	}
	isRefused(t, "items of another source", api.Source{}, all, body(t, "return #0"))
	isRefused(t, "nothing of nothing", api.Source{}, nil, api.Body{})
}

// isRefused fails, if something is told of a body that may not be.
func isRefused(t *testing.T, about string, s api.Source, all []api.Body, b api.Body) {
	t.Helper()
	checked(t, about, s, all, b, api.ErrMir, 0)
	checked(t, about+", of no bodies", s, nil, b, api.ErrMir, 0)
	if l := pins.Polled(s, b); l != nil {
		t.Errorf("%s: %v are polled", about, l)
	}
	if pins.Unpin(s, b) {
		t.Errorf("%s: it may be moved", about)
	}
}
