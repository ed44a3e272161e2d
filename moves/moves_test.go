package moves_test

import (
	"strings"
	"testing"

	"cocoon/api"
	"cocoon/moves"
)

// small are few locals: a number, a D and an E, which may be handed in, another D and another E, and the result.
const small = `
	0 n int
	1 d D
	2 e E
	3 f D
	4 g E
	5  int
`

// TestStates: what may be set, and what must, on the ways through a body, of which the first three locals are handed in.
func TestStates(t *testing.T) {
	for _, x := range []struct {
		about     string
		blocks    []string
		may, must string
	}{
		{"at first", []string{"return #0"}, "SSS... SSS...", "SSS... SSS..."},
		{"step by step", []string{"live 3; set 3 = 0 0 0 move 1; drop 3; dead 3; dead 0; set 5 = 0 0 0 #1; return copy 5"},
			"SSS... SSS... S.SS.. S.S... S.S... ..S... ..S..S ..S..S", "SSS... SSS... S.SS.. S.S... S.S... ..S... ..S..S ..S..S"},
		{"dropped on one way", []string{"if copy 0 1 2", "drop 1; goto 3", "goto 3", "return #0"},
			"SSS... SSS... | SSS... S.S... S.S... | SSS... SSS... | SSS... SSS...", "SSS... SSS... | SSS... S.S... S.S... | SSS... SSS... | S.S... S.S..."},
		{"set on one way", []string{"if copy 0 1 2", "set 3 = 10 1 0 #1; goto 3", "goto 3", "return #0"},
			"SSS... SSS... | SSS... SSSS.. SSSS.. | SSS... SSS... | SSSS.. SSSS..", "SSS... SSS... | SSS... SSSS.. SSSS.. | SSS... SSS... | SSS... SSS..."},
		{"set on both", []string{"if copy 0 1 2", "set 3 = 10 1 0 #1; goto 3", "set 3 = 10 1 0 #2; goto 3", "return #0"},
			"SSS... SSS... | SSS... SSSS.. SSSS.. | SSS... SSSS.. SSSS.. | SSSS.. SSSS..", "SSS... SSS... | SSS... SSSS.. SSSS.. | SSS... SSSS.. SSSS.. | SSSS.. SSSS.."},
		{"moved in a while", []string{"goto 1", "if copy 0 2 3", "set 3 = 0 0 0 move 1; goto 1", "return #0"},
			"SSS... SSS... | SSSS.. SSSS.. | SSSS.. S.SS.. S.SS.. | SSSS.. SSSS..", "SSS... SSS... | S.S... S.S... | S.S... S.SS.. S.SS.. | S.S... S.S..."},
		{"set in a while that comes to the first block", []string{"if copy 0 1 2", "set 5 = 0 0 0 #1; dead 1; goto 0", "return #0"},
			"SSS..S SSS..S | SSS..S SSS..S S.S..S S.S..S | SSS..S SSS..S", "S.S... S.S... | S.S... S.S..S S.S..S S.S..S | S.S... S.S..."},
		{"a match", []string{"match 2 1 2 3", "open 2 0 -1; goto 4", "open 2 1 5; goto 4", "open 2 2 3; set 2 = 11 0 0; goto 4", "return #0"},
			"SSS... SSS... | SSS... SS.... SS.... | SSS... SS...S SS...S | SSS... SS.S.. SSSS.. SSSS.. | SSSS.S SSSS.S", "SSS... SSS... | SSS... SS.... SS.... | SSS... SS...S SS...S | SSS... SS.S.. SSSS.. SSSS.. | SS.... SS...."},
		{"a wait sets behind it", []string{"wait 5 copy 0 1", "dead 0; wait 5 #1 1"},
			"SSS... SSS..S | SSS..S .SS..S .SS..S", "SSS... SSS..S | .SS..S .SS..S .SS..S"},
		{"blocks that nothing goes to", []string{"goto 2", "drop 1; goto 2", "goto 4", "goto 1", "return #0"},
			"SSS... SSS... | nil | SSS... SSS... | nil | SSS... SSS...", "SSS... SSS... | nil | SSS... SSS... | nil | SSS... SSS..."},
		{"blocks the other way round", []string{"goto 2", "return #0", "drop 1; goto 1"},
			"SSS... SSS... | S.S... S.S... | SSS... S.S... S.S...", "SSS... SSS... | S.S... S.S... | SSS... S.S... S.S..."},
		{"on and on", []string{"yield #1 0"}, "SSS... SSS...", "SSS... SSS..."},
	} {
		s := source(t, decls)
		b := read(t, s, "f 3"+small+told(x.blocks...))
		is(t, x.about+", may", moves.May(s, b), x.may)
		is(t, x.about+", must", moves.Must(s, b), x.must)
	}
}

// TestHanded: at first what is handed in is set, and nothing else.
func TestHanded(t *testing.T) {
	s := source(t, decls)
	b := body(t, "return #0")
	for n := range count {
		want := strings.Repeat("S", n) + strings.Repeat(".", count-n)
		is(t, "may", moves.May(s, handed(b, n)), want+" "+want)
		is(t, "must", moves.Must(s, handed(b, n)), want+" "+want)
	}
	alone := api.Body{Locals: []api.Local{{Ty: api.Ty{K: api.TyInt}}}, Blocks: []api.Block{{End: api.Tm{U: api.Use{Num: true}, K: api.TmReturn}}}}
	is(t, "the result alone", moves.Must(api.Source{}, alone), ". .")
	checked(t, "the result alone", api.Source{}, alone, api.OK, 0)
	alone.Blocks[0].End = api.Tm{K: api.TmReturn, At: 5}
	checked(t, "what was never set", api.Source{}, alone, api.ErrMoved, 5)
}

// TestOpensIntoItself: what is moved out of a local may be moved into the same one: it is set behind that.
func TestOpensIntoItself(t *testing.T) {
	s := source(t, "enum R { A(R), B }")
	b := read(t, s, "f 1\n\t0 r R\n\t1  int\n"+told("open 0 0 0; open 0 1 -1; return #0"))
	is(t, "may", moves.May(s, b), "S. S. .. ..")
	is(t, "must", moves.Must(s, b), "S. S. .. ..")
	checked(t, "it is set", s, b, api.OK, 0)
}
