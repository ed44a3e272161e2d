package loans_test

import (
	"testing"

	"cocoon/api"
	"cocoon/loans"
)

// TestHeld: what is held on the ways through a body, on one of them, or on none.
func TestHeld(t *testing.T) {
	for _, x := range []struct {
		about  string
		blocks []string
		want   string
	}{
		{"nothing", []string{"return #0"}, "-; -"},
		{"what is handed in is of nothing", []string{"print copy 3.-1; return copy 5.-1"}, "-; -; -"},
		{"one loan", []string{"set 3 = 6 0 0 0; return #0"}, "-; r0; r0"},
		{"one that may change", []string{"set 5 = 7 0 0 0; return #0"}, "-; m0; m0"},
		{"another one takes its place", []string{"set 3 = 6 0 0 0; set 3 = 6 0 0 1; return #0"}, "-; r0; r1; r1"},
		{"begun again", []string{"set 3 = 6 0 0 0; live 3; return #0"}, "-; r0; -; -"},
		{"ended", []string{"set 3 = 6 0 0 0; set 4 = 6 0 0 1; dead 3; return #0"}, "-; r0; r0 q1; q1; q1"},
		{"dropped", []string{"set 3 = 6 0 0 0; end 3; drop 5; return #0"}, "-; r0; r0; r0; r0"},
		{"copied", []string{"set 3 = 6 0 0 0; set 4 = 0 0 0 copy 3; set 3 = 6 0 0 1; return #0"}, "-; r0; r0 q0; r1 q0; r1 q0"},
		{"moved, and held there still", []string{"set 5 = 7 0 0 0; set 6 = 0 0 0 move 5; return #0"}, "-; m0; m0 n0; m0 n0"},
		{"copied of one that holds none", []string{"set 3 = 6 0 0 0; set 3 = 0 0 0 copy 4; return #0"}, "-; r0; -; -"},
		{"copied of what a struct holds", []string{"set 3 = 6 0 0 0; set 3 = 0 0 0 copy 11.0; return #0"}, "-; r0; -; -"},
		{"made of a reference", []string{"set 3 = 6 0 0 0; set 4 = 6 0 0 3.-1; return #0"}, "-; r0; r0 q0,1; r0 q0,1"},
		{"made of a part of what one is of", []string{"set 8 = 7 0 0 2; set 5 = 7 0 0 8.-1.1; return #0"}, "-; k0; m0,1 k0; m0,1 k0"},
		{"a shared one, of one that may change", []string{"set 5 = 7 0 0 0; set 3 = 6 0 0 5.-1; return #0"}, "-; m0; r0,1 m0; r0,1 m0"},
		{"made of a box", []string{"set 3 = 6 0 0 0; set 3 = 6 0 0 10.-1.0; return #0"}, "-; r0; r1; r1"},
		{"made of what a struct holds", []string{"set 3 = 6 0 0 0; set 3 = 6 0 0 11.0.-1; return #0"}, "-; r0; r1; r1"},
		{"made of itself", []string{"set 3 = 6 0 0 0; set 3 = 6 0 0 3.-1; set 3 = 6 0 0 3.-1; return #0"}, "-; r0; r0,1; r0,1,2; r0,1,2"},
		{"made of itself, which holds none", []string{"set 5 = 7 0 0 5.-1; return #0"}, "-; m0; m0"},
		{"set to itself", []string{"set 3 = 6 0 0 0; set 3 = 0 0 0 copy 3; set 5 = 7 0 0 1; set 5 = 0 0 0 move 5; return #0"}, "-; r0; r0; r0 m1; r0 m1; r0 m1"},
		{"a row of them", []string{"set 7 = 6 0 0 2; set 3 = 6 0 0 7.-1.0; set 4 = 6 0 0 3.-1; set 3 = 0 0 0 copy 4; return #0"}, "-; s0; r0,1 s0; r0,1 q0,1,2 s0; r0,1,2 q0,1,2 s0; r0,1,2 q0,1,2 s0"},
		{"numbers", []string{"set 3 = 6 0 0 0; set 0 = 0 0 0 copy 3.-1; set 0 = 0 0 0 #1; set 15 = 1 0 0 copy 3.-1 copy 0; return copy 15"}, "-; r0; r0; r0; r0; r0"},
		{"what a reference is of is set", []string{"set 5 = 7 0 0 0; set 5.-1 = 0 0 0 #1; set 0 = 0 0 0 #2; return #0"}, "-; m0; m0; m0; m0"},
		{"a struct and an enum that take references hold none", []string{"set 3 = 6 0 0 0; set 8 = 7 0 0 2; set 11 = 10 3 0 copy 3 move 8; set 12 = 11 1 0 copy 3; return #0"}, "-; r0; r0 k1; r0 k1; r0 k1; r0 k1"},
		{"what comes out of an enum changes nothing", []string{"set 3 = 6 0 0 0; open 12 0 3; open 9 0 -1; return #0"}, "-; r0; r0; r0; r0"},
	} {
		is(t, x.about, held(t, x.blocks...), x.want)
	}
}

// TestBlocks: what is held where ways part, and come together.
func TestBlocks(t *testing.T) {
	for _, x := range []struct {
		about  string
		blocks []string
		want   string
	}{
		{"block by block", []string{"set 3 = 6 0 0 0; goto 1", "set 4 = 0 0 0 copy 3; goto 2", "dead 3; return #0"},
			"-; r0; r0 | r0; r0 q0; r0 q0 | r0 q0; q0; q0"},
		{"blocks the other way round", []string{"set 3 = 6 0 0 0; goto 2", "return #0", "set 4 = 0 0 0 copy 3; goto 1"},
			"-; r0; r0 | r0 q0; r0 q0 | r0; r0 q0; r0 q0"},
		{"held on one way", []string{"if #1 1 2", "set 3 = 6 0 0 0; goto 3", "goto 3", "return #0"},
			"-; - | -; r0; r0 | -; - | r0; r0"},
		{"one on each way", []string{"if #1 1 2", "set 3 = 6 0 0 0; goto 3", "set 3 = 6 0 0 1; goto 3", "set 4 = 0 0 0 copy 3; return #0"},
			"-; - | -; r0; r0 | -; r1; r1 | r0,1; r0,1 q0,1; r0,1 q0,1"},
		{"another one on one way", []string{"set 3 = 6 0 0 0; if #1 1 2", "set 3 = 6 0 0 1; goto 2", "return #0"},
			"-; r0; r0 | r0; r1; r1 | r0,1; r0,1"},
		{"ended on one way", []string{"set 3 = 6 0 0 0; if #1 1 2", "dead 3; goto 2", "return #0"},
			"-; r0; r0 | r0; -; - | r0; r0"},
		{"ended on both", []string{"set 3 = 6 0 0 0; if #1 1 2", "dead 3; goto 3", "live 3; goto 3", "return #0"},
			"-; r0; r0 | r0; -; - | r0; -; - | -; -"},
		{"copied on one way", []string{"set 3 = 6 0 0 0; set 4 = 6 0 0 1; if #1 1 2", "set 4 = 0 0 0 copy 3; goto 2", "return #0"},
			"-; r0; r0 q1; r0 q1 | r0 q1; r0 q0; r0 q0 | r0 q0,1; r0 q0,1"},
		{"two locals, each on one way", []string{"if #1 1 2", "set 3 = 6 0 0 0; goto 3", "set 4 = 6 0 0 1; goto 3", "set 5 = 7 0 0 5.-1; return #0"},
			"-; - | -; r0; r0 | -; q1; q1 | r0 q1; r0 q1 m2; r0 q1 m2"},
		{"both ways of an if to one block", []string{"set 3 = 6 0 0 0; if #1 1 1", "return #0"}, "-; r0; r0 | r0; r0"},
		{"a while that makes one", []string{"goto 1", "if #1 2 3", "set 3 = 6 0 0 0; goto 1", "return #0"},
			"-; - | r0; r0 | r0; r0; r0 | r0; r0"},
		{"a while that makes one of itself", []string{"set 3 = 6 0 0 0; goto 1", "if #1 2 3", "set 3 = 6 0 0 3.-1; goto 1", "return #0"},
			"-; r0; r0 | r0,1; r0,1 | r0,1; r0,1; r0,1 | r0,1; r0,1"},
		{"a while that ends what it makes", []string{"goto 1", "if #1 2 3", "live 3; set 3 = 6 0 0 0; dead 3; goto 1", "return #0"},
			"-; - | -; - | -; -; r0; -; - | -; -"},
		{"a while that hands on", []string{"set 3 = 6 0 0 0; goto 1", "if #1 2 3", "set 4 = 0 0 0 copy 3; set 3 = 6 0 0 1; goto 1", "return #0"},
			"-; r0; r0 | r0,1 q0,1; r0,1 q0,1 | r0,1 q0,1; r0,1 q0,1; r1 q0,1; r1 q0,1 | r0,1 q0,1; r0,1 q0,1"},
		{"a while that changes two", []string{"set 5 = 7 0 0 0; set 6 = 7 0 0 1; goto 1", "if #1 2 3", "set 5 = 0 0 0 move 6; set 6 = 7 0 0 2.0; goto 1", "return #0"},
			"-; m0; m0 n1; m0 n1 | m0,1,2 n1,2; m0,1,2 n1,2 | m0,1,2 n1,2; m1,2 n1,2; m1,2 n2; m1,2 n2 | m0,1,2 n1,2; m0,1,2 n1,2"},
		{"a match", []string{"set 3 = 6 0 0 0; match 9 1 2 3", "open 9 0 -1; goto 4", "open 9 1 0; set 3 = 6 0 0 1; goto 4", "dead 3; set 4 = 6 0 0 2.0; goto 4", "return #0"},
			"-; r0; r0 | r0; r0; r0 | r0; r0; r1; r1 | r0; -; q2; q2 | r0,1 q2; r0,1 q2"},
		{"a ring of one block", []string{"set 3 = 0 0 0 copy 4; set 4 = 6 0 0 0; goto 0"}, "r0 q0; r0 q0; r0 q0; r0 q0"},
		{"a ring of two", []string{"set 4 = 0 0 0 copy 3; goto 1", "set 3 = 6 0 0 0; goto 0"}, "r0 q0; r0 q0; r0 q0 | r0 q0; r0 q0; r0 q0"},
		{"a ring that loses all", []string{"set 3 = 6 0 0 0; goto 1", "dead 3; goto 0"}, "-; r0; r0 | r0; -; -"},
		{"round for each local", []string{"set 3 = 6 0 0 5.-1; set 5 = 0 0 0 move 6; set 6 = 7 0 0 8.-1.0; set 8 = 7 0 0 2; yield #1 0"},
			"r0,1,2 m1,2 n1,2 k2; r0,1,2 m1,2 n1,2 k2; r0,1,2 m1,2 n1,2 k2; r0,1,2 m1,2 n1,2 k2; r0,1,2 m1,2 n1,2 k2; r0,1,2 m1,2 n1,2 k2"},
		{"two rings, one in the other", []string{"goto 1", "set 4 = 0 0 0 copy 3; if #1 2 3", "set 3 = 6 0 0 0; if #1 2 1", "set 3 = 6 0 0 1; if #1 1 4", "return #0"},
			"-; - | r0,1 q0,1; r0,1 q0,1; r0,1 q0,1 | r0,1 q0,1; r0 q0,1; r0 q0,1 | r0,1 q0,1; r1 q0,1; r1 q0,1 | r1 q0,1; r1 q0,1"},
		{"a block that is not reached", []string{"set 3 = 6 0 0 0; return #0", "set 4 = 6 0 0 1; goto 0"}, "-; r0; r0 | nil"},
		{"one ahead of all", []string{"goto 2", "set 3 = 6 0 0 0; goto 2", "set 4 = 6 0 0 1; return #0"}, "-; - | nil | -; q1; q1"},
		{"a ring that is not reached", []string{"return #0", "set 3 = 6 0 0 0; goto 2", "if #1 0 1"}, "-; - | nil | nil"},
		{"all kinds of ends", []string{"set 3 = 6 0 0 0; yield copy 3.-1 1", "await 0 13 2", "set 5 = 7 0 0 1; poll 5.-1 13 3", "wait 0 copy 3.-1 4", "goto 5", "match 9 6 6 6", "if copy 3.-1 7 7", "return copy 3.-1"},
			"-; r0; r0 | r0; r0 | r0; r0 m1; r0 m1 | r0 m1; r0 m1 | r0 m1; r0 m1 | r0 m1; r0 m1 | r0 m1; r0 m1 | r0 m1; r0 m1"},
	} {
		is(t, x.about, held(t, x.blocks...), x.want)
	}
}

// TestNone: of a body without a loan the states are there, and hold nothing.
func TestNone(t *testing.T) {
	s := source(t, decls)
	b := body(t, "live 3; if #1 1 2", "set 3 = 0 0 0 copy 4; goto 2", "return #0", "goto 0")
	l := loans.Held(s, b)
	is(t, "held", states(t, b, l), "-; -; - | -; -; - | -; - | nil")
	if n := len(loans.Loans(b)); n != 0 || len(l) != 4 || l[0] == nil || l[3] != nil {
		t.Errorf("%d loans, %v", n, l)
	}
	alone := api.Body{Locals: []api.Local{{Ty: api.Ty{K: api.TyInt}}}, Blocks: []api.Block{{End: api.Tm{K: api.TmYield, U: api.Use{Num: true}, To: []int{0}}}}}
	is(t, "the result alone", states(t, alone, loans.Held(api.Source{}, alone)), "-; -")
	alone.Locals = append([]api.Local{{Name: "r", Ty: api.Ty{K: api.TyRef, L: []api.Ty{{K: api.TyInt}}}}}, alone.Locals...)
	alone.Blocks[0].Ins = []api.In{{K: api.InSet, V: api.Value{K: api.RvRef, S: api.Spot{Local: 1}}}}
	is(t, "of the result", states(t, alone, loans.Held(api.Source{}, alone)), "r0; r0; r0")
}

// TestNotValid: of what may not be nothing is told to be held.
func TestNotValid(t *testing.T) {
	s := source(t, decls)
	for about, change := range map[string]func(b *api.Body){
		"no block":                   func(b *api.Body) { b.Blocks = nil },
		"no local":                   func(b *api.Body) { b.Locals = nil },
		"a result with a name":       func(b *api.Body) { b.Locals[15].Name = "x" },
		"too many handed in":         func(b *api.Body) { b.Params = 16 },
		"fewer than none":            func(b *api.Body) { b.Params = -1 },
		"a reference to a reference": func(b *api.Body) { b.Locals[4].Ty.L = []api.Ty{b.Locals[3].Ty} },
		"a type of no kind":          func(b *api.Body) { b.Locals[0].Ty.K = 99 },
		"a reference to nothing":     func(b *api.Body) { b.Locals[4].Ty.L = nil },
		"no such local":              func(b *api.Body) { b.Blocks[0].Ins[0].S.Local = 99 },
		"a local below 0":            func(b *api.Body) { b.Blocks[0].Ins[1].V.S.Local = -1 },
		"a loan of a reference":      func(b *api.Body) { b.Blocks[0].Ins[2].V.S.Path = nil },
		"a loan through a shared":    func(b *api.Body) { b.Blocks[0].Ins[2].V.S.Local = 3 },
		"no such part":               func(b *api.Body) { b.Blocks[0].Ins[1].V.S.Path = []int{0} },
		"a loan of a use":            func(b *api.Body) { b.Blocks[0].Ins[1].V.Uses = []api.Use{{Num: true}} },
		"of another kind":            func(b *api.Body) { b.Blocks[0].Ins[1].V.K = api.RvMut },
		"no use":                     func(b *api.Body) { b.Blocks[0].Ins[3].V.Uses = nil },
		"a number":                   func(b *api.Body) { b.Blocks[0].Ins[3].V.Uses = []api.Use{{Num: true}} },
		"what is moved is copied":    func(b *api.Body) { b.Blocks[0].Ins[3].V.Uses[0].Move = true },
		"nowhere":                    func(b *api.Body) { b.Blocks[1].End.To[0] = 3 },
		"no way":                     func(b *api.Body) { b.Blocks[1].End.To = nil },
		"what is not reached":        func(b *api.Body) { b.Blocks[2].End.U.S.Local = 16 },
		"a step of no kind":          func(b *api.Body) { b.Blocks[0].Ins[0] = api.In{K: 6} },
		"an end of no kind":          func(b *api.Body) { b.Blocks[0].End = api.Tm{K: -1} },
		"nothing":                    func(b *api.Body) { *b = api.Body{} },
	} {
		b := body(t, "live 3; set 3 = 6 0 0 0; set 5 = 7 0 0 6.-1; set 4 = 0 0 0 copy 3; yield #1 1", "open 9 0 -1; wait 0 #1 0", "return copy 15")
		if loans.Held(s, b) == nil {
			t.Errorf("ahead of %s nothing is told", about)
		}
		change(&b)
		if l := loans.Held(s, b); l != nil {
			t.Errorf("%s: %v", about, l)
		}
		loans.Loans(b)
	}
	if loans.Held(api.Source{}, body(t, "return #0")) != nil {
		t.Error("items of another source")
	}
	if loans.Held(api.Source{}, api.Body{}) != nil {
		t.Error("nothing of nothing")
	}
}
