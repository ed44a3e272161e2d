package pins_test

import (
	"slices"
	"testing"

	"cocoon/api"
	"cocoon/pins"
)

// polledAndMoved is a body in which, one behind the other, an s, a g and an h are polled, and moved.
func polledAndMoved(t *testing.T) (b api.Body, at [3]int) {
	t.Helper()
	b = placed(body(t, "poll 0 2 1", "poll 0 4 2", "poll 0 12 3", "set 13 = 0 0 0 move 2; set 5 = 0 0 0 move 4; set 12 = 0 0 0 move 12; return #0"))
	for i := range at {
		at[i] = b.Blocks[3].Ins[i].At
	}
	return b, at
}

// TestBodies: which coroutines may be moved hangs on the bodies of all.
func TestBodies(t *testing.T) {
	s := source(t, decls)
	all := built(t, s)
	g, h := all[1], all[2]
	free := built(t, source(t, "co s(x: int) { yield x; return x; }"))[0]
	held := built(t, source(t, "co g(a: int) { let r: &int = &a; yield 1; return r.*; }"))[0]
	for _, x := range []struct {
		about string
		all   []api.Body
		first int // which move is told; none, if below 0
	}{
		{"as they are", all, 0},
		{"none", nil, 0},
		{"an empty list", []api.Body{}, 0},
		{"one", all[:1], 0},
		{"one more", append(slices.Clone(all), held), 0},
		{"all may be moved", []api.Body{free, g, h}, -1},
		{"all, and more", []api.Body{free, g, h, held, {}}, -1},
		{"the last one is not there", []api.Body{free, g}, 2},
		{"the last ones are not there", []api.Body{free}, 1},
		{"the one in the middle holds what is its own", []api.Body{free, held, h}, 1},
		{"the one in the middle may not be", []api.Body{free, {}, h}, 1},
		{"the last one may not be", []api.Body{free, g, {Name: "h"}}, 2},
		{"the first one may not be", []api.Body{{}, g, h}, 0},
	} {
		b, at := polledAndMoved(t)
		if x.first < 0 {
			checked(t, x.about, s, x.all, b, api.OK, 0)
			continue
		}
		checked(t, x.about, s, x.all, b, api.ErrPin, at[x.first])
	}
}

// TestOwn: a coroutine may poll, and move, another one of its own kind.
func TestOwn(t *testing.T) {
	isMarked(t, "co f(c: co f) { let x: int = poll c; let d: co f = c; return x; }")
	isMarked(t, "co f(c: co f) { let x: int = poll c; ^let d: co f = c; let r: &int = &x; yield 1; return r.*; }")
	isMarked(t, "co f(c: co f) { let d: co f = c; let x: int = poll d; let r: &int = &x; yield 1; return r.*; }")
}

// TestTwoOfAName: of coroutines of one name the first one is meant.
func TestTwoOfAName(t *testing.T) {
	s := source(t, decls)
	all := built(t, s)
	b := placed(body(t, "poll 0 4 1", "set 5 = 0 0 0 move 4; return #0"))
	at := b.Blocks[1].Ins[0].At
	twice := cloned(s)
	twice.Fns = append(twice.Fns, twice.Fns[1])
	checked(t, "the first one may be moved", twice, append(slices.Clone(all), all[0]), b, api.OK, 0)
	checked(t, "so where the second one is not there", twice, all, b, api.OK, 0)
	wild := built(t, source(t, "co g(a: int) { let r: &int = &a; yield 1; return r.*; }"))[0]
	checked(t, "the first one may not", twice, []api.Body{all[0], wild, all[2], all[1]}, b, api.ErrPin, at)
	if pins.Unpin(twice, wild) || !pins.Unpin(twice, all[1]) {
		t.Error("they are told the other way round")
	}
}

// TestNotAsked: bodies of coroutines that are not moved behind a poll are not looked at.
func TestNotAsked(t *testing.T) {
	s := source(t, decls)
	for _, blocks := range [][]string{
		{"set 3 = 0 0 0 move 2; set 5 = 0 0 0 move 4; return #0"},
		{"poll 0 2 1", "poll 0 4 2", "set 3 = 0 0 0 move 13; set 12 = 0 0 0 move 12; return #0"},
		{"poll 0 2 1", "await 0 2 2", "set 3 = 0 0 0 move 2; return #0"},
		{"return #0", "poll 0 2 2", "set 3 = 0 0 0 move 2; return #0"},
	} {
		checked(t, blocks[0], s, nil, body(t, blocks...), api.OK, 0)
		checked(t, blocks[0], s, []api.Body{{}, {}, {}}, body(t, blocks...), api.OK, 0)
	}
}
