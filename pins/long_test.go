package pins_test

import (
	"strings"
	"testing"

	"cocoon/api"
	"cocoon/pins"
)

// number is the type of numbers.
func number() api.Ty { return api.Ty{K: api.TyInt} }

// many is a body of as many locals as may be behind a number, each of a type that is told, and so many blocks in a ring.
func many(blocks int, of func(local int) api.Ty) api.Body {
	b := api.Body{Blocks: make([]api.Block, blocks), Locals: []api.Local{{Name: "x", Ty: number()}}}
	for local := 1; local < api.MaxLocals; local++ {
		b.Locals = append(b.Locals, api.Local{Name: "c" + itoa(local), Ty: of(local)})
	}
	b.Locals = append(b.Locals, api.Local{Ty: number()})
	for i := range b.Blocks {
		b.Blocks[i].End = api.Tm{K: api.TmGoto, To: []int{(i + 1) % blocks}}
	}
	return b
}

func coroutineOf(name string) api.Ty { return api.Ty{K: api.TyCo, Name: name} }

// moved is a step that moves a local to another one.
func moved(to, from int) api.In {
	return api.In{K: api.InSet, S: api.Spot{Local: to}, V: api.Value{Uses: []api.Use{{Move: true, S: api.Spot{Local: from}}}}}
}

// TestLongRing: many blocks, through all of which each local may be polled, take no long time.
func TestLongRing(t *testing.T) {
	const blocks = 2000
	s := source(t, decls)
	all := built(t, s)
	b := many(blocks, func(int) api.Ty { return coroutineOf("s") })
	for local := 1; local < api.MaxLocals; local++ {
		b.Blocks[local].End.K, b.Blocks[local].End.V.S.Local = api.TmPoll, local
	}
	for block, states := range pins.Polled(s, b) {
		for _, flags := range states {
			for local, is := range flags {
				if is != (0 < local && local < api.MaxLocals) {
					t.Fatalf("in block %d local %d may be polled: %v", block, local, is)
				}
			}
		}
	}
	checked(t, "none is moved", s, all, b, api.OK, 0)
	b.Blocks[blocks-1].Ins = []api.In{moved(1, 199)}
	b.Blocks[blocks-1].Ins[0].At = 77
	checked(t, "one is moved", s, all, b, api.ErrPin, 77)
}

// TestManyCoroutines: each local is of another coroutine, whose body is looked at by itself.
func TestManyCoroutines(t *testing.T) {
	text := ""
	for i := range api.MaxLocals {
		text += "co c" + itoa(i) + "(x: int) { let r: &int = &x; yield 1; return " + map[bool]string{true: "r.*", false: "0"}[i == 150] + "; }"
	}
	s := source(t, text)
	all := built(t, s)
	b := many(api.MaxLocals+1, func(local int) api.Ty { return coroutineOf("c" + itoa(local)) })
	for local := 1; local < api.MaxLocals; local++ {
		b.Blocks[local].End.K, b.Blocks[local].End.V.S.Local = api.TmPoll, local
		b.Blocks[api.MaxLocals].Ins = append(b.Blocks[api.MaxLocals].Ins, moved(local, local))
	}
	b = placed(b)
	last := b.Blocks[api.MaxLocals].Ins
	checked(t, "one holds what is its own", s, all, b, api.ErrPin, last[149].At)
	checked(t, "some are not there", s, all[:100], b, api.ErrPin, last[99].At)
	last[149] = moved(149, 149)
	checked(t, "it is not moved", s, all, b, api.OK, 0)
	checked(t, "the last one is not there", s, all[:api.MaxLocals-1], b, api.ErrPin, last[198].At)
}

// TestManyMoves: a coroutine of long code that is moved again and again takes no long time, as its body is looked at once.
func TestManyMoves(t *testing.T) {
	s := source(t, "co f(c: co g) { return 0; } co g(x: int) { let r: &int = &x; "+strings.Repeat("r = &x; print r.*; yield 1; ", 700)+"return x; }")
	all := built(t, s)
	b := many(2, func(int) api.Ty { return coroutineOf("g") })
	b.Locals = append(b.Locals[:3:3], b.Locals[api.MaxLocals])
	b.Blocks[0].End.K, b.Blocks[0].End.V.S.Local = api.TmPoll, 1
	for range 40000 {
		b.Blocks[1].Ins = append(b.Blocks[1].Ins, moved(2, 1))
	}
	b = placed(b)
	checked(t, "it may be moved", s, all, b, api.OK, 0)
	checked(t, "it is not there", s, all[:1], b, api.ErrPin, b.Blocks[1].Ins[0].At)
}
