package build_test

import (
	"slices"
	"testing"

	"cocoon/api"
	"cocoon/mir"
)

// way is a look at which locals are live on the ways through a body.
type way struct {
	*testing.T
	about string
	body  api.Body
	live  []bool
}

// lives goes all ways through a body: each local is live where it is used, and begins where it is not; nothing but the result is live where it returns; all ways to a block agree on what is live there, and there is one.
func lives(t *testing.T, about string, b api.Body) {
	t.Helper()
	first := make([]bool, len(b.Locals))
	for i := range b.Locals {
		first[i] = i < b.Params || i == len(b.Locals)-1
	}
	ahead := make([][]bool, len(b.Blocks))
	ahead[0] = first
	for todo := []int{0}; len(todo) > 0; {
		n := todo[len(todo)-1]
		todo = todo[:len(todo)-1]
		w := way{t, about, b, slices.Clone(ahead[n])}
		w.block(b.Blocks[n])
		for _, to := range b.Blocks[n].End.To {
			if ahead[to] == nil {
				ahead[to] = slices.Clone(w.live)
				todo = append(todo, to)
			}
			if !slices.Equal(ahead[to], w.live) {
				t.Fatalf("%s: ways to block %d do not agree:\n%.3000s", about, to, mir.Text(b))
			}
		}
	}
	for i, x := range ahead {
		if x == nil {
			t.Fatalf("%s: nothing goes to block %d:\n%.3000s", about, i, mir.Text(b))
		}
	}
}

func (w way) block(x api.Block) {
	w.Helper()
	for _, y := range x.Ins {
		w.step(y)
	}
	switch end := x.End; end.K {
	case api.TmIf, api.TmYield:
		w.use(end.U)
	case api.TmMatch:
		w.isLive(end.S.Local)
	case api.TmAwait, api.TmPoll:
		w.isLive(end.S.Local)
		w.isLive(end.V.S.Local)
	case api.TmWait:
		w.use(end.U)
		w.isLive(end.S.Local)
	case api.TmReturn:
		w.use(end.U)
		w.isLeft()
	}
}

// isLeft fails, if more than the result is live.
func (w way) isLeft() {
	w.Helper()
	for i, live := range w.live {
		if live != (i == len(w.live)-1) {
			w.Fatalf("%s: local %d is live where it returns: %v\n%.3000s", w.about, i, live, mir.Text(w.body))
		}
	}
}

func (w way) step(x api.In) {
	w.Helper()
	n := x.S.Local
	switch x.K {
	case api.InLive:
		if w.live[n] {
			w.Fatalf("%s: local %d begins where it is live:\n%.3000s", w.about, n, mir.Text(w.body))
		}
		w.live[n] = true
	case api.InDead:
		w.isLive(n)
		w.live[n] = false
	case api.InDrop:
		w.isLive(n)
	case api.InPrint:
		w.use(x.U)
	case api.InOpen:
		w.isLive(n)
		if x.V.S.Local >= 0 {
			w.isLive(x.V.S.Local)
		}
	case api.InSet:
		w.value(x.V)
		w.isLive(n)
	}
}

func (w way) value(v api.Value) {
	w.Helper()
	for _, u := range v.Uses {
		w.use(u)
	}
	if v.K == api.RvRef || v.K == api.RvMut || v.K == api.RvUnbox {
		w.isLive(v.S.Local)
	}
}

func (w way) use(u api.Use) {
	w.Helper()
	if !u.Num {
		w.isLive(u.S.Local)
	}
}

func (w way) isLive(n int) {
	w.Helper()
	if !w.live[n] {
		w.Fatalf("%s: local %d is used where it is not live:\n%.3000s", w.about, n, mir.Text(w.body))
	}
}
