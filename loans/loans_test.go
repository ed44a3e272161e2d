package loans_test

import (
	"strings"
	"testing"

	"cocoon/api"
	"cocoon/build"
	"cocoon/loans"
)

// TestExample: what is made of a reference holds what that holds.
func TestExample(t *testing.T) {
	s := source(t, "co f() { let x: int = 1; let r: &int = &x; let s: &int = r; return s.*; }")
	b := build.Body(s, 0)
	is(t, "loans", list(loans.Loans(b)), "0:3 & 0")
	is(t, "held", states(t, b, loans.Held(s, b)), "-; -; -; -; r0; r0; r0 s0; r0 s0; r0; -; -; -")
}

// TestLoans: each reference that is made, in the order of blocks and steps.
func TestLoans(t *testing.T) {
	for _, x := range []struct {
		about  string
		blocks []string
		want   string
	}{
		{"none", []string{"return #0"}, ""},
		{"steps that make none", []string{"live 3; set 0 = 0 0 0 #1; set 3 = 0 0 0 copy 4; set 5 = 0 0 0 move 6; open 12 0 3; print copy 3.-1; end 3; dead 3; return copy 3.-1"}, ""},
		{"one", []string{"set 3 = 6 0 0 0; return #0"}, "0:0 & 0"},
		{"one that may change", []string{"set 5 = 7 0 0 1; return #0"}, "0:0 &mut 1"},
		{"of a part", []string{"live 3; set 3 = 6 0 0 14.1.0; live 5; set 5 = 7 0 0 2.1; return #0"}, "0:1 & 14.1.0, 0:3 &mut 2.1"},
		{"of what is in a box", []string{"set 5 = 7 0 0 10.-1.0; set 7 = 6 0 0 10.-1; return #0"}, "0:0 &mut 10.-1.0, 0:1 & 10.-1"},
		{"of what a reference is of", []string{"set 3 = 6 0 0 4.-1; set 5 = 7 0 0 8.-1.1; return #0"}, "0:0 & 4.-1, 0:1 &mut 8.-1.1"},
		{"the same again", []string{"set 3 = 6 0 0 0; set 3 = 6 0 0 0; goto 0"}, "0:0 & 0, 0:1 & 0"},
		{"in the order of blocks, not of ways", []string{"goto 2", "set 3 = 6 0 0 1; return #0", "set 3 = 6 0 0 0; set 5 = 7 0 0 0; goto 1"}, "1:0 & 1, 2:0 & 0, 2:1 &mut 0"},
		{"in blocks that are not reached", []string{"return #0", "live 3; set 3 = 6 0 0 1; goto 1", "set 5 = 7 0 0 0; goto 0"}, "1:1 & 1, 2:0 &mut 0"},
	} {
		is(t, x.about, list(loans.Loans(body(t, x.blocks...))), x.want)
	}
}

// TestAnyLoans: a body that may not be has its loans, too; of what is no InSet there is none.
func TestAnyLoans(t *testing.T) {
	of := func(k api.InKind, v api.RvKind, x api.Spot) api.In {
		return api.In{K: k, V: api.Value{K: v, S: x}}
	}
	is(t, "nothing", list(loans.Loans(api.Body{})), "")
	b := api.Body{Params: -5, Blocks: []api.Block{{}, {
		Ins: []api.In{of(api.InSet, api.RvMut, api.Spot{Local: -7, Path: []int{9, -9}})},
		End: api.Tm{K: -1, To: []int{7}, V: api.Value{K: api.RvMut}},
	}}}
	for k := api.InKind(-1); k <= api.InOpen+1; k++ {
		b.Blocks[0].Ins = append(b.Blocks[0].Ins, of(k, api.RvRef, api.Spot{Local: int(k)}))
	}
	is(t, "each kind of step", list(loans.Loans(b)), "0:3 & 2, 1:0 &mut -7.9.-9")
	b.Blocks[0].Ins = nil
	for k := api.RvKind(-1); k <= api.RvWait+1; k++ {
		b.Blocks[0].Ins = append(b.Blocks[0].Ins, of(api.InSet, k, api.Spot{Local: 1<<63 - 1}))
	}
	is(t, "each kind of value", list(loans.Loans(b)), "0:7 & 9223372036854775807, 0:8 &mut 9223372036854775807, 1:0 &mut -7.9.-9")
	x := of(api.InSet, api.RvRef, api.Spot{})
	x.S, x.U, x.V.Uses, x.V.Which, x.V.Tag = api.Spot{Local: 99, Path: []int{1}}, api.Use{Num: true, N: 4}, make([]api.Use, 3), -1, 5
	is(t, "what is beside it", list(loans.Loans(api.Body{Blocks: []api.Block{{Ins: []api.In{x}}}})), "0:0 & 0")
}

// TestOverlap: two spots, and whether one stands in the other, whichever is told first.
func TestOverlap(t *testing.T) {
	for _, x := range []struct {
		a, b string
		want bool
	}{
		{"0", "0", true},
		{"3.1", "3.1", true},
		{"3.-1.0", "3.-1.0", true},
		{"-1", "-1", true},
		{"3", "3.1", true},
		{"3", "3.-1", true},
		{"3", "3.0.1.2.3.4", true},
		{"3.1", "3.1.0", true},
		{"3.-1", "3.-1.0", true},
		{"3.1.0", "3.1.0.0", true},
		{"9223372036854775807.-9223372036854775808", "9223372036854775807.-9223372036854775808.0", true},
		{"0", "1", false},
		{"0", "-1", false},
		{"0", "1.0", false},
		{"0.1", "1.1", false},
		{"0.1", "1.1.0", false},
		{"3.0", "3.1", false},
		{"3.0", "3.-1", false},
		{"3.0", "3.1.0", false},
		{"3.1", "3.0.1", false},
		{"3.0.1", "3.1.1", false},
		{"3.0.1", "3.0.0", false},
		{"3.0.1.2", "3.0.1.3", false},
		{"3.0.1", "3.0.2.1", false},
		{"3.0.0.0.0", "3.0.0.1", false},
	} {
		a, b := spot(t, x.a), spot(t, x.b)
		if got := loans.Overlap(a, b); got != x.want {
			t.Errorf("%s and %s: %v", x.a, x.b, got)
		}
		if got := loans.Overlap(b, a); got != x.want {
			t.Errorf("%s and %s: %v", x.b, x.a, got)
		}
	}
	if !loans.Overlap(api.Spot{Path: []int{}}, api.Spot{}) || !loans.Overlap(api.Spot{}, api.Spot{Path: []int{5}}) {
		t.Error("a path without steps is the beginning of each")
	}
}

// TestManyOverlap holds pairs of short spots against a plain look at their texts.
func TestManyOverlap(t *testing.T) {
	var all []string
	for _, local := range []string{"0", "1"} {
		ends := []string{local}
		for range 4 {
			all = append(all, ends...)
			var next []string
			for _, x := range ends {
				next = append(next, x+".-1", x+".0", x+".1")
			}
			ends = next
		}
	}
	for _, a := range all {
		for _, b := range all {
			want := strings.HasPrefix(a+".", b+".") || strings.HasPrefix(b+".", a+".")
			if got := loans.Overlap(spot(t, a), spot(t, b)); got != want {
				t.Errorf("%s and %s: %v", a, b, got)
			}
		}
	}
}

// TestTexts: what references of coroutines are of where they return.
func TestTexts(t *testing.T) {
	for _, x := range []struct{ text, loans, want string }{
		{"let r: &int = &x; return r.*;", "& x", "r0"},
		{"let m: &mut int = &mut x; m.* = 2; return m.*;", "&mut x", "m0"},
		{"let r: &int = &x; let s: &int = r; let t: &int = s; return t.*;", "& x", "r0 s0 t0"},
		{"let r: &int = &x; let s: &int = r; r = &y; return s.*;", "& x, & y", "r1 s0"},
		{"let r: &int = &x; let s: &int = &r.*; return s.*;", "& x, & r.-1", "r0 s0,1"},
		{"let k: &mut P = &mut p; let m: &mut int = &mut k.*.x; return m.*;", "&mut p, &mut k.-1.0", "k0 m0,1"},
		{"let k: &mut P = &mut p; let l: &mut P = k; return l.*.y;", "&mut p", "k0 l0"},
		{"let b: box P = box p; let r: &int = &b.*.x; return r.*;", "& b.-1.0", "r0"},
		{"let r: &int = &x; if x { r = &y; } return r.*;", "& x, & y", "r0,1"},
		{"let r: &int = &x; if x { r = &y; } else { r = &p.x; } return r.*;", "& x, & y, & p.0", "r1,2"},
		{"let r: &int = &x; while x { r = &y; } return r.*;", "& x, & y", "r0,1"},
		{"let r: &int = &x; let s: &int = &y; while x { s = r; r = &p.y; } return s.*;", "& x, & y, & p.1", "r0,2 s0,1,2"},
		{"let r: &int = &x; while x { r = &r.*; } return r.*;", "& x, & r.-1", "r0,1"},
		{"let r: &int = &x; let e: E = E::B(1); match e { A => { r = &y; } B(i) => { print i; } C(d) => { r = &p.x; drop d; } } return r.*;", "& x, & y, & p.0", "r0,1,2"},
		{"let r: &int = &x; yield r.*; let s: &int = &p.x; x = wait s.*; return r.*;", "& x, & p.0", "r0 s1"},
		{"if x { let r: &int = &x; print r.*; } return 0;", "& x", "-"},
		{"let r: &int = &x; if x { return r.*; } r = &y; return r.*;", "& x, & y", "r1"},
	} {
		s := source(t, right+"co f(x: int, y: int) { let p: P = P(1, 2); "+x.text+" }")
		b := build.Body(s, len(s.Fns)-1)
		if len(b.Blocks) == 0 {
			t.Fatalf("nothing is built of %s", x.text)
		}
		var l []string
		for _, loan := range loans.Loans(b) {
			text := b.Locals[loan.S.Local].Name + strings.TrimPrefix(spotText(loan.S), itoa(loan.S.Local))
			l = append(l, map[bool]string{false: "& ", true: "&mut "}[loan.Mut]+text)
		}
		is(t, x.text+": loans", strings.Join(l, ", "), x.loans)
		is(t, x.text, returned(t, s, b), x.want)
	}
}

// returned is who holds what ahead of the first step, of the last block, that sets the result.
func returned(t *testing.T, s api.Source, b api.Body) string {
	t.Helper()
	last := len(b.Blocks) - 1
	for step, x := range b.Blocks[last].Ins {
		if x.K == api.InSet && x.S.Local == len(b.Locals)-1 {
			return state(t, b, loans.Held(s, b)[last][step])
		}
	}
	t.Fatal("nothing is returned")
	return ""
}
