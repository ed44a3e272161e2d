package borrows_test

import (
	"testing"

	"cocoon/api"
	"cocoon/borrows"
)

// long is a body without steps, of so many blocks in a ring, and as many references as may be behind two numbers.
func long(blocks int) api.Body {
	number := api.Ty{K: api.TyInt}
	b := api.Body{Blocks: make([]api.Block, blocks), Locals: []api.Local{{Name: "x", Ty: number}, {Name: "y", Ty: number}}}
	for len(b.Locals) < api.MaxLocals {
		b.Locals = append(b.Locals, api.Local{Name: "r", Ty: api.Ty{K: api.TyRef, L: []api.Ty{number}}})
	}
	b.Locals = append(b.Locals, api.Local{Ty: number})
	for i := range b.Blocks {
		b.Blocks[i].End = api.Tm{K: api.TmYield, U: api.Use{Num: true}, To: []int{(i + 1) % blocks}}
	}
	return b
}

// set is a step that sets a local.
func set(local int, v api.Value) api.In {
	return api.In{K: api.InSet, S: api.Spot{Local: local}, V: v}
}

// all are steps, one for each reference of long.
func all(do func(local int) api.In) []api.In {
	var l []api.In
	for local := 2; local < api.MaxLocals; local++ {
		l = append(l, do(local))
	}
	return l
}

func lend(local int) api.In { return set(local, api.Value{K: api.RvRef}) }

func use(local int) api.In { return api.In{K: api.InDrop, S: api.Spot{Local: local}} }

// TestLongRow: a block of many steps, whose references are made, and used, takes no long time.
func TestLongRow(t *testing.T) {
	b := long(1)
	wrong := set(0, api.Value{Uses: []api.Use{{Num: true}}})
	right := wrong
	right.S.Local = 1
	b.Blocks[0].Ins = joined(all(lend), all(use), all(lend), []api.In{right}, all(use))
	b.Blocks[0].End = api.Tm{K: api.TmReturn, U: api.Use{Num: true}}
	b = placed(b)
	checked(t, "all is right", api.Source{}, b, api.OK, 0)
	const refs = api.MaxLocals - 2
	for step, want := range map[int]int{0: 0, 1: 1, refs: refs, refs + 1: refs - 1, 2 * refs: 0, 3 * refs: refs, 3*refs + 1: refs, 4 * refs: 1, 4*refs + 1: 0} {
		if l := borrows.Active(api.Source{}, b, 0, step); len(l) != want {
			t.Errorf("%d are active at %d, want %d", len(l), step, want)
		}
	}
	b.Blocks[0].Ins[3*refs].S = wrong.S
	checked(t, "one is wrong", api.Source{}, b, api.ErrBorrow, where(b, 0, 3*refs))
}

// TestLongRing: many blocks, across all of which something is lent, take no long time.
func TestLongRing(t *testing.T) {
	const blocks = 2000
	b := long(blocks)
	for i := range 10 {
		b.Blocks[0].Ins = append(b.Blocks[0].Ins, lend(2+i))
	}
	last := &b.Blocks[blocks-1]
	last.Ins = []api.In{use(4), use(2)}
	checked(t, "all is right", api.Source{}, b, api.OK, 0)
	for block, flags := range borrows.Lent(api.Source{}, b) {
		for local, is := range flags {
			if is != (local == 0 && block != blocks-1) {
				t.Fatalf("behind block %d local %d is lent: %v", block, local, is)
			}
		}
	}
	last.Ins = append([]api.In{set(0, api.Value{Uses: []api.Use{{Num: true}}})}, last.Ins...)
	last.Ins[0].At = 77
	checked(t, "the last one is wrong", api.Source{}, b, api.ErrBorrow, 77)
}
