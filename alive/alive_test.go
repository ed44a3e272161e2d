package alive_test

import (
	"slices"
	"strings"
	"testing"

	"cocoon/alive"
	"cocoon/api"
	"cocoon/build"
)

// TestExample: what is set ahead of a yield, and used behind it, is saved.
func TestExample(t *testing.T) {
	s := source(t, "co f() { let x: int = 1; yield 1; return x; }")
	b := build.Body(s, 0)
	is(t, "saved", saved(s, b), "0")
	is(t, "alive", states(alive.Alive(s, b)), ".. .. S. S. | S. .S .S ..")
	is(t, "storage", states(alive.Storage(s, b)), ".S SS SS SS | SS SS .S .S")
	is(t, "holds", rows(alive.Holds(s, b)), "SS SS")
}

// TestAlive: what is used later, on the ways through a body, on one of them, or on none.
func TestAlive(t *testing.T) {
	s := source(t, decls)
	for _, x := range []struct {
		about  string
		blocks []string
		want   string
	}{
		{"nothing", []string{"return #0"}, "..... ....."},
		{"step by step", []string{"live 0; set 0 = 0 0 0 #1; set 1 = 1 0 0 copy 0 copy 2; end 0; dead 0; set 4 = 0 0 0 copy 1; return copy 4"},
			"..S.. ..S.. S.S.. SS... .S... .S... ....S ....."},
		{"used on one way", []string{"if copy 0 1 2", "print copy 1; goto 3", "goto 3", "return #0"},
			"SS... .S... | .S... ..... ..... | ..... ..... | ..... ....."},
		{"used on each way, not the same ones", []string{"if #1 1 2", "print copy 1; return #0", "print copy 2; return copy 1"},
			".SS.. .SS.. | .S... ..... ..... | .SS.. .S... ....."},
		{"set on one way", []string{"if #1 1 2", "set 0 = 0 0 0 #1; goto 3", "goto 3", "return copy 0"},
			"S.... S.... | ..... S.... S.... | S.... S.... | S.... ....."},
		{"set on both", []string{"if #1 1 2", "set 0 = 0 0 0 #1; goto 3", "wait 0 #1 3", "return copy 0"},
			"..... ..... | ..... S.... S.... | ..... S.... | S.... ....."},
		{"made on one way", []string{"if #1 1 2", "live 0; goto 3", "goto 3", "return copy 0"},
			"S.... S.... | ..... S.... S.... | S.... S.... | S.... ....."},
		{"ended on one way", []string{"if #1 1 2", "dead 0; goto 3", "goto 3", "return copy 0"},
			"S.... S.... | ..... S.... S.... | S.... S.... | S.... ....."},
		{"dropped on one way", []string{"if #1 1 2", "end 0; dead 0; goto 3", "goto 3", "return #0"},
			"S.... S.... | S.... ..... ..... ..... | ..... ..... | ..... ....."},
		{"a part is set", []string{"set 3 = 11 0 1 copy 0; open 3 1 1; return copy 1"}, "S.... ...S. .S... ....."},
		{"a while uses", []string{"goto 1", "if copy 0 2 3", "set 0 = 2 0 0 copy 0 copy 1; goto 1", "return copy 2"},
			"SSS.. SSS.. | SSS.. SSS.. | SSS.. SSS.. SSS.. | ..S.. ....."},
		{"a while sets, and uses behind that", []string{"goto 1", "if #1 2 3", "live 0; set 0 = 0 0 0 #1; print copy 0; dead 0; goto 1", "return #0"},
			"..... ..... | ..... ..... | ..... ..... S.... ..... ..... ..... | ..... ....."},
		{"a while uses, and sets behind that", []string{"goto 1", "if #1 2 3", "print copy 0; set 0 = 0 0 0 #1; goto 1", "return #0"},
			"S.... S.... | S.... S.... | S.... ..... S.... S.... | ..... ....."},
		{"a while that is left sets", []string{"goto 1", "if #1 2 3", "goto 1", "set 0 = 0 0 0 #1; return copy 0"},
			"..... ..... | ..... ..... | ..... ..... | ..... S.... ....."},
		{"a while that has no end", []string{"goto 1", "set 2 = 0 0 0 #1; yield copy 0 1"},
			"S.... S.... | S.... S.... S...."},
		{"a match", []string{"match 3 1 2 3", "open 3 0 -1; goto 4", "open 3 1 0; print copy 0; goto 4", "set 0 = 0 0 0 #1; goto 4", "return copy 0"},
			"S..S. S..S. | S..S. S.... S.... | ...S. S.... S.... S.... | ..... S.... S.... | S.... ....."},
		{"an arm opens what nothing uses", []string{"match 3 1 1 1", "open 3 1 2; return #0"}, "...S. ...S. | ...S. ..... ....."},
		{"the result", []string{"if copy 4 1 2", "set 4 = 0 0 0 #1; return copy 4", "return copy 4"},
			"....S ....S | ..... ....S ..... | ....S ....."},
		{"parameters", []string{"set 0 = 0 0 0 #1; print copy 1; return copy 0"}, ".S... SS... S.... ....."},
		{"blocks that nothing goes to", []string{"goto 2", "print copy 0; goto 2", "return copy 1", "print copy 2; goto 1", "goto 4"},
			".S... .S... | SS... .S... .S... | .S... ..... | SSS.. SS... SS... | ..... ....."},
		{"blocks the other way round", []string{"goto 2", "return copy 0", "set 0 = 0 0 0 copy 1; goto 1"},
			".S... .S... | S.... ..... | .S... S.... S...."},
	} {
		for params := range 5 { // what is handed in does not count
			b := fewBody(t, s, params, x.blocks...)
			is(t, x.about, states(alive.Alive(s, b)), x.want)
		}
	}
}

// TestStorage: what has a place, on one way at least; what is handed in has one at first, and the result everywhere.
func TestStorage(t *testing.T) {
	s := source(t, decls)
	for _, x := range []struct {
		about  string
		params int
		blocks []string
		want   string
	}{
		{"the result alone", 0, []string{"return #0"}, "....S ....S"},
		{"one is handed in", 1, []string{"return #0"}, "S...S S...S"},
		{"all are", 4, []string{"return #0"}, "SSSSS SSSSS"},
		{"step by step", 1, []string{"live 1; live 2; dead 1; dead 0; live 1; dead 2; return #0"},
			"S...S SS..S SSS.S S.S.S ..S.S .SS.S .S..S .S..S"},
		{"what has one already, and what has none", 1, []string{"live 0; dead 1; dead 0; dead 0; return #0"},
			"S...S S...S S...S ....S ....S ....S"},
		{"what is set, used, dropped has none for it", 0, []string{"set 0 = 0 0 0 #1; print copy 0; open 3 1 1; wait 4 #1 1", "end 0; drop 0; wait 2 #1 1"},
			"....S ....S ....S ....S ....S | ....S ....S ....S ....S"},
		{"and keeps its own", 1, []string{"set 0 = 0 0 0 #1; print copy 0; end 0; drop 0; return copy 0"},
			"S...S S...S S...S S...S S...S S...S"},
		{"made on one way", 0, []string{"if #1 1 2", "live 0; goto 3", "goto 3", "return #0"},
			"....S ....S | ....S S...S S...S | ....S ....S | S...S S...S"},
		{"ended on one way", 1, []string{"if #1 1 2", "dead 0; goto 3", "goto 3", "return #0"},
			"S...S S...S | S...S ....S ....S | S...S S...S | S...S S...S"},
		{"ended on both", 1, []string{"if #1 1 2", "dead 0; goto 3", "dead 0; goto 3", "return #0"},
			"S...S S...S | S...S ....S ....S | S...S ....S ....S | ....S ....S"},
		{"two, each on one way", 0, []string{"if #1 1 2", "live 0; goto 3", "live 1; goto 3", "return #0"},
			"....S ....S | ....S S...S S...S | ....S .S..S .S..S | SS..S SS..S"},
		{"made in a while", 0, []string{"goto 1", "if #1 2 3", "live 0; dead 0; live 1; goto 1", "return #0"},
			"....S ....S | .S..S .S..S | .S..S SS..S .S..S .S..S .S..S | .S..S .S..S"},
		{"ended in a while", 1, []string{"goto 1", "if #1 2 3", "dead 0; goto 1", "return #0"},
			"S...S S...S | S...S S...S | S...S ....S ....S | S...S S...S"},
		{"made in an arm", 1, []string{"match 3 1 2 3", "live 1; goto 4", "dead 0; goto 4", "live 2; dead 2; goto 4", "return #0"},
			"S...S S...S | S...S SS..S SS..S | S...S ....S ....S | S...S S.S.S S...S S...S | SS..S SS..S"},
		{"the first block comes behind another one", 1, []string{"if #1 1 2", "live 1; dead 0; goto 0", "return #0"},
			"SS..S SS..S | SS..S SS..S .S..S .S..S | SS..S SS..S"},
		{"blocks that nothing goes to", 1, []string{"goto 2", "live 1; goto 2", "return #0", "dead 0; goto 1"},
			"S...S S...S | nil | S...S S...S | nil"},
		{"blocks the other way round", 0, []string{"goto 2", "return #0", "live 1; goto 1"},
			"....S ....S | .S..S .S..S | ....S .S..S .S..S"},
	} {
		b := fewBody(t, s, x.params, x.blocks...)
		is(t, x.about, states(alive.Storage(s, b)), x.want)
	}
}

// TestHandedIn: each count of those that are handed in.
func TestHandedIn(t *testing.T) {
	s := source(t, decls)
	b := body(t, "yield #0 1", "return #0")
	var all []string
	for n := range count {
		b.Params = n
		want := strings.Repeat("S", n) + strings.Repeat(".", count-1-n) + "S"
		is(t, "storage", states(alive.Storage(s, b)), want+" "+want+" | "+want+" "+want)
		is(t, "saved", saved(s, b), strings.Join(all, " "))
		all = append(all, itoa(n))
	}
	alone := api.Body{Locals: []api.Local{{Ty: api.Ty{K: api.TyInt}}}, Blocks: []api.Block{{End: api.Tm{K: api.TmYield, To: []int{0}}}}}
	is(t, "the result alone, alive", states(alive.Alive(api.Source{}, alone)), "S S")
	is(t, "the result alone, storage", states(alive.Storage(api.Source{}, alone)), "S S")
	is(t, "the result alone, saved", saved(api.Source{}, alone), "")
	is(t, "the result alone, holds", rows(alive.Holds(api.Source{}, alone)), "S")
}

// TestSaved: what may have a place at an end at which a body may be suspended, in the order of the locals.
func TestSaved(t *testing.T) {
	s := source(t, decls)
	for _, x := range []struct {
		about  string
		params int
		blocks []string
		want   string
	}{
		{"a return", 2, []string{"return copy 0"}, ""},
		{"a goto", 2, []string{"goto 1", "return #0"}, ""},
		{"an if", 2, []string{"if #1 1 1", "return #0"}, ""},
		{"a match", 2, []string{"match 3 1 1 1", "return #0"}, ""},
		{"a yield", 2, []string{"yield #1 1", "return #0"}, "0 1"},
		{"a wait", 2, []string{"wait 0 #1 1", "return #0"}, "0 1"},
		{"a yield of nothing but the result", 0, []string{"yield copy 4 1", "return #0"}, ""},
		{"what it waits for has no place", 0, []string{"wait 0 #1 1", "return #0"}, ""},
		{"what ended ahead of it", 2, []string{"dead 0; yield #1 1", "return #0"}, "1"},
		{"what begins behind it", 0, []string{"yield #1 1", "live 0; dead 0; return #0"}, ""},
		{"what begins ahead of it", 0, []string{"live 2; live 1; yield #1 1", "dead 1; return #0"}, "1 2"},
		{"what begins, and ends, ahead of it", 1, []string{"live 2; dead 2; yield #1 1", "return #0"}, "0"},
		{"what begins on one way", 0, []string{"if #1 1 2", "live 2; goto 2", "yield #1 3", "return #0"}, "2"},
		{"what ends on one way", 3, []string{"if #1 1 2", "dead 2; goto 2", "yield #1 3", "return #0"}, "0 1 2"},
		{"each at another one", 0, []string{"live 2; yield #1 1", "dead 2; live 0; wait 0 #1 2", "dead 0; live 1; dead 1; return #0"}, "0 2"},
		{"one that comes behind itself", 0, []string{"yield #1 1", "live 1; goto 0"}, "1"},
		{"one that is not reached", 2, []string{"return #0", "yield #1 0"}, ""},
		{"one that is reached from nowhere, and begins", 0, []string{"yield #1 2", "live 0; goto 0", "return #0"}, ""},
		{"not the last step alone", 3, []string{"dead 0; live 0; dead 1; yield #1 1", "return #0"}, "0 2"},
	} {
		b := fewBody(t, s, x.params, x.blocks...)
		is(t, x.about, saved(s, b), x.want)
	}
	b := body(t, "dead 0; await 14 8 1", "return #0")
	is(t, "an await", saved(s, b), "1 2 3 4 5 6 7 8 9 10 11 12 13")
	b.Blocks[0].End.K = api.TmPoll
	is(t, "a poll", saved(s, b), "")
}

// names are those of all locals that are saved.
func names(s api.Source, b api.Body) string {
	var l []string
	for _, x := range alive.Saved(s, b) {
		l = append(l, b.Locals[x].Name)
	}
	return strings.Join(l, " ")
}

// TestTexts: what is saved of coroutines, and which of their locals have a place at once.
func TestTexts(t *testing.T) {
	for _, x := range []struct{ text, saved, apart string }{
		{"let a: int = 1; yield a; return a;", "n c a", ""},
		{"let a: int = 1; print a; return a;", "", ""},
		{"if n { let a: int = 1; print a; } let b: int = 2; yield b; return b;", "n c b", "a-b"},
		{"if n { let a: int = 1; yield a; } let b: int = 2; return b;", "n c a", "a-b"},
		{"if n { let a: int = 1; let b: int = a; } else { let d: int = 1; yield d; } return 0;", "n c d", "a-d b-d"},
		{"while n { let a: int = 1; n = n - a; } while n { let b: int = 1; yield b; } return 0;", "n c b", "a-b"},
		{"match e { A => { yield 1; } B(x) => { print x; } C(y) => { drop y; } } return 0;", "n c e", "x-y"},
		{"match e { A => { } B(x) => { yield x; } C(y) => { let a: int = wait 1; } } return 0;", "n c e x y a", "x-y x-a"},
		{"let a: int = await c; return a;", "n c e a", ""},
		{"let a: int = poll c; return a;", "", ""},
		{"let a: int = poll c; drop c; let b: int = wait a; return b;", "n c e a b", ""},
		{"let a: int = 1; while a { let b: int = 2; if b { return b; } yield 3; } let d: int = 4; return d;", "n c e a b", "b-d"},
	} {
		s := source(t, "co f(n: int, c: co g) { let e: E = E::A; "+x.text+" }"+right)
		b := build.Body(s, 0)
		if len(b.Blocks) == 0 {
			t.Fatalf("nothing is built of %s", x.text)
		}
		want := strings.Fields(x.saved)
		if len(want) > 0 && !slices.Contains(want, "e") { // it is there in all of them
			want = slices.Insert(want, 2, "e")
		}
		is(t, x.text+": saved", names(s, b), strings.Join(want, " "))
		is(t, x.text+": apart", apart(s, b), x.apart)
	}
}

// apart are all pairs of names that have never a place at once.
func apart(s api.Source, b api.Body) string {
	var l []string
	for i, holds := range alive.Holds(s, b) {
		for j := range i {
			if !holds[j] {
				l = append(l, b.Locals[j].Name+"-"+b.Locals[i].Name)
			}
		}
	}
	return strings.Join(l, " ")
}

// TestHolds: which two have a place at once: ahead of a step, or of an end, or behind that.
func TestHolds(t *testing.T) {
	s := source(t, decls)
	for _, x := range []struct {
		about  string
		params int
		blocks []string
		want   string
	}{
		{"none but each itself", 0, []string{"return #0"}, "S.... .S... ..S.. ...S. ....S"},
		{"one and the result", 1, []string{"return #0"}, "S...S .S... ..S.. ...S. S...S"},
		{"two that are handed in", 2, []string{"return #0"}, "SS..S SS..S ..S.. ...S. SS..S"},
		{"all", 4, []string{"return #0"}, "SSSSS SSSSS SSSSS SSSSS SSSSS"},
		{"those that are handed in, ahead of the first step alone", 2, []string{"dead 0; dead 1; return #0"}, "SS..S SS..S ..S.. ...S. SS..S"},
		{"one behind the other", 0, []string{"live 0; dead 0; live 1; return #0"}, "S...S .S..S ..S.. ...S. SS..S"},
		{"one ahead of another's end", 0, []string{"live 0; live 1; dead 0; live 2; dead 1; return #0"}, "SS..S SSS.S .SS.S ...S. SSS.S"},
		{"ahead of a step alone", 0, []string{"live 0; live 3; dead 0; dead 3; goto 1", "return #0"}, "S..SS .S... ..S.. S..SS S..SS"},
		{"ahead of an end alone", 0, []string{"live 2; live 0; goto 1", "dead 2; return #0"}, "S.S.S .S... S.S.S ...S. S.S.S"},
		{"behind an end alone, each from another way", 0, []string{"if #1 1 2", "live 0; goto 3", "live 1; goto 3", "return #0"},
			"SS..S SS..S ..S.. ...S. SS..S"},
		{"ahead of the first step alone, each from another way", 0, []string{"if #1 1 2", "live 0; goto 3", "live 1; goto 3", "dead 0; return #0"},
			"SS..S SS..S ..S.. ...S. SS..S"},
		{"on one way alone", 0, []string{"if #1 1 2", "live 0; live 1; dead 0; goto 2", "return #0"}, "SS..S SS..S ..S.. ...S. SS..S"},
		{"on two ways, each alone", 0, []string{"if #1 1 2", "live 0; dead 0; goto 3", "live 1; dead 1; goto 3", "return #0"}, "S...S .S..S ..S.. ...S. SS..S"},
		{"round and round", 0, []string{"if #1 1 2", "dead 1; live 0; dead 0; live 1; goto 0", "return #0"}, "S...S .S..S ..S.. ...S. SS..S"},
		{"round and round, ended later", 0, []string{"if #1 1 2", "live 0; dead 1; dead 0; live 1; goto 0", "return #0"}, "SS..S SS..S ..S.. ...S. SS..S"},
		{"in a block that is not reached", 0, []string{"return #0", "live 0; live 1; goto 0"}, "S.... .S... ..S.. ...S. ....S"},
		{"from a block that is not reached", 1, []string{"goto 2", "live 1; goto 2", "return #0"}, "S...S .S... ..S.. ...S. S...S"},
		{"three", 0, []string{"live 0; live 1; live 2; return #0"}, "SSS.S SSS.S SSS.S ...S. SSS.S"},
		{"what is used has no place for it", 0, []string{"set 0 = 0 0 0 #1; print copy 1; return copy 2"}, "S.... .S... ..S.. ...S. ....S"},
		{"the last two blocks, each its own", 0, []string{"if #1 1 2", "live 0; return #0", "live 1; live 2; return #0"}, "S...S .SS.S .SS.S ...S. SSS.S"},
		{"the same two again, in another block", 0, []string{"live 0; live 1; dead 1; goto 1", "live 1; live 2; return #0"}, "SSS.S SSS.S SSS.S ...S. SSS.S"},
	} {
		b := fewBody(t, s, x.params, x.blocks...)
		is(t, x.about, rows(alive.Holds(s, b)), x.want)
	}
}

// TestNotValid: of what may not be nothing is told.
func TestNotValid(t *testing.T) {
	const all = "alive saved storage holds"
	s := source(t, decls)
	for about, change := range map[string]func(b *api.Body){
		"no block":                  func(b *api.Body) { b.Blocks = nil },
		"no local":                  func(b *api.Body) { b.Locals = nil },
		"a result with a name":      func(b *api.Body) { b.Locals[14].Name = "x" },
		"too many handed in":        func(b *api.Body) { b.Params = 15 },
		"fewer than none":           func(b *api.Body) { b.Params = -1 },
		"very many":                 func(b *api.Body) { b.Params = 1 << 62 },
		"an enum as a struct":       func(b *api.Body) { b.Locals[4].Ty.K = api.TyStruct },
		"a type of no kind":         func(b *api.Body) { b.Locals[0].Ty.K = 99 },
		"no such local":             func(b *api.Body) { b.Blocks[0].Ins[0].S.Local = 99 },
		"a local below 0":           func(b *api.Body) { b.Blocks[0].Ins[0].S.Local = -1 },
		"the result begins":         func(b *api.Body) { b.Blocks[0].Ins[0].S.Local = 14 },
		"a drop of a part":          func(b *api.Body) { b.Blocks[0].Ins[1].S.Path = []int{0} },
		"what is moved is copied":   func(b *api.Body) { b.Blocks[0].Ins[2].V.Uses[0].Move = false },
		"no such use":               func(b *api.Body) { b.Blocks[0].Ins[2].V.Uses[0].S.Local = 1 << 40 },
		"no use":                    func(b *api.Body) { b.Blocks[0].Ins[2].V.Uses = nil },
		"a variant that holds more": func(b *api.Body) { b.Blocks[1].Ins[0].V.S.Local = 0 },
		"nowhere":                   func(b *api.Body) { b.Blocks[1].End.To[0] = 3 },
		"no way":                    func(b *api.Body) { b.Blocks[1].End.To = nil },
		"what is not reached":       func(b *api.Body) { b.Blocks[2].End.U.S.Local = 15 },
		"a step of no kind":         func(b *api.Body) { b.Blocks[0].Ins[1] = api.In{K: 6} },
		"an end of no kind":         func(b *api.Body) { b.Blocks[0].End = api.Tm{K: -1} },
		"nothing":                   func(b *api.Body) { *b = api.Body{} },
	} {
		b := body(t, "live 1; drop 1; set 1 = 0 0 0 move 2; yield #1 1", "open 4 0 -1; wait 0 #1 0", "return copy 14")
		is(t, "ahead of "+about, refused(s, b), "")
		change(&b)
		is(t, about, refused(s, b), all)
	}
	is(t, "items of another source", refused(api.Source{}, body(t, "yield #0 0")), all)
	is(t, "nothing of nothing", refused(api.Source{}, api.Body{}), all)
}

// refused are the calls that tell nothing of a body; something is saved of all that are asked about and may be.
func refused(s api.Source, b api.Body) string {
	text := ""
	if alive.Alive(s, b) == nil {
		text += "alive "
	}
	if alive.Saved(s, b) == nil {
		text += "saved "
	}
	if alive.Storage(s, b) == nil {
		text += "storage "
	}
	if alive.Holds(s, b) == nil {
		text += "holds"
	}
	return text
}
