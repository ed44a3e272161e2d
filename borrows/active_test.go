package borrows_test

import (
	"testing"

	"cocoon/api"
	"cocoon/borrows"
	"cocoon/build"
)

// TestActive: the loans at each place of a body.
func TestActive(t *testing.T) {
	for _, x := range []struct {
		about  string
		blocks []string
		want   string
	}{
		{"nothing", []string{"return #0"}, "-; -"},
		{"used later", []string{"set 3 = 6 0 0 0; print copy 3.-1; return #0"}, "-; 0; -; -"},
		{"used by the end", []string{"set 3 = 6 0 0 0; print #1; return copy 3.-1"}, "-; 0; 0; -"},
		{"used no more", []string{"set 3 = 6 0 0 0; return #0"}, "-; -; -"},
		{"used twice", []string{"set 5 = 7 0 0 0; set 5.-1 = 0 0 0 #1; print copy 5.-1; return #0"}, "-; 0; 0; -; -"},
		{"used where it is dropped", []string{"set 3 = 6 0 0 0; print #1; end 3; print #1; return #0"}, "-; 0; 0; -; -; -"},
		{"ended, and used", []string{"set 3 = 6 0 0 0; dead 3; print copy 3.-1; return #0"}, "-; -; -; -; -"},
		{"set anew", []string{"set 3 = 6 0 0 0; print copy 3.-1; set 3 = 6 0 0 1; print copy 3.-1; return #0"}, "-; 0; -; 1; -; -"},
		{"one of two is used", []string{"set 3 = 6 0 0 0; set 4 = 6 0 0 1; print copy 4.-1; return #0"}, "-; -; 1; -; -"},
		{"both are used", []string{"set 4 = 6 0 0 1; set 3 = 6 0 0 0; print copy 3.-1; print copy 4.-1; return #0"}, "-; 0; 0,1; 0; -; -"},
		{"used by a copy", []string{"set 3 = 6 0 0 0; set 4 = 0 0 0 copy 3; print #1; print copy 4.-1; return #0"}, "-; 0; 0; 0; -; -"},
		{"used by what it is moved to", []string{"set 5 = 7 0 0 0; set 6 = 0 0 0 move 5; print copy 6.-1; return #0"}, "-; 0; 0; -; -"},
		{"made of a reference", []string{"set 8 = 7 0 0 2; set 5 = 7 0 0 8.-1.0; set 5.-1 = 0 0 0 #1; print copy 8.-1.0; return #0"}, "-; 0; 0,1; 0; -; -"},
		{"made of one that is used no more", []string{"set 8 = 7 0 0 2; set 5 = 7 0 0 8.-1.0; set 5.-1 = 0 0 0 #1; return #0"}, "-; 0; 0,1; -; -"},
		{"made of itself", []string{"set 3 = 6 0 0 0; set 3 = 6 0 0 3.-1; set 3 = 6 0 0 3.-1; print copy 3.-1; return #0"}, "-; 0; 0,1; 0,1,2; -; -"},
		{"held by two, the second is used later", []string{"set 3 = 6 0 0 0; set 4 = 0 0 0 copy 3; print copy 3.-1; print copy 4.-1; return #0"}, "-; 0; 0; 0; -; -"},
		{"held by two, one is set anew", []string{"set 3 = 6 0 0 0; set 4 = 0 0 0 copy 3; set 3 = 6 0 0 1; print copy 3.-1; return #0"}, "-; 0; -; 1; -; -"},
		{"block by block", []string{"set 3 = 6 0 0 0; goto 1", "print #1; goto 2", "return copy 3.-1"}, "-; 0; 0 | 0; 0; 0 | 0; -"},
		{"used on one way", []string{"set 3 = 6 0 0 0; if #1 1 2", "return copy 3.-1", "return #0"}, "-; 0; 0 | 0; - | -; -"},
		{"held on one way", []string{"if #1 1 2", "set 3 = 6 0 0 0; goto 3", "set 3 = 6 0 0 1; goto 3", "return copy 3.-1"}, "-; - | -; 0; 0 | -; 1; 1 | 0,1; -"},
		{"set anew on one way", []string{"set 3 = 6 0 0 0; if #1 1 2", "set 3 = 6 0 0 1; goto 2", "return copy 3.-1"}, "-; 0; 0 | -; 1; 1 | 0,1; -"},
		{"a while that uses it", []string{"set 3 = 6 0 0 0; goto 1", "if #1 2 3", "print copy 3.-1; goto 1", "return #0"}, "-; 0; 0 | 0; 0 | 0; 0; 0 | -; -"},
		{"a while that makes it", []string{"goto 1", "if #1 2 3", "print copy 3.-1; set 3 = 6 0 0 0; goto 1", "return #0"}, "-; - | 0; 0 | 0; -; 0; 0 | -; -"},
		{"a match", []string{"set 21 = 6 0 0 9; match 9 1 2 3", "open 9 0 -1; end 21; return #0", "end 21; goto 3", "return #0"}, "-; 0; 0 | 0; 0; -; - | 0; -; - | -; -"},
		{"a ring of one", []string{"print copy 3.-1; set 3 = 6 0 0 0; goto 0"}, "0; -; 0; 0"},
		{"used by an end of each kind", []string{"set 5 = 7 0 0 0; set 6 = 7 0 0 1; goto 1", "wait 5.-1 copy 6.-1 2", "await 5.-1 11 3", "poll 5.-1 11 4", "yield copy 5.-1 5", "if copy 6.-1 6 6", "return #0"},
			"-; 0; 0,1; 0,1 | 0,1; 0,1 | 0,1; 0,1 | 0,1; 0,1 | 0,1; 1 | 1; - | -; -"},
		{"what is handed in is of nothing", []string{"print copy 3.-1; print copy 5.-1; return #0"}, "-; -; -; -"},
		{"not reached", []string{"set 3 = 6 0 0 0; return copy 3.-1", "set 4 = 6 0 0 1; print copy 4.-1; goto 0"}, "-; 0; - | -; -; -; -"},
		{"from what is not reached", []string{"goto 2", "set 3 = 6 0 0 1; goto 2", "set 4 = 6 0 0 0; print copy 3.-1; return copy 4.-1"}, "-; - | -; -; - | -; 1; 1; -"},
	} {
		s := source(t, decls)
		b := body(t, x.blocks...)
		is(t, x.about, active(b, asked(s, b)), x.want)
	}
}

// TestNoPlace: blocks and steps that there are not.
func TestNoPlace(t *testing.T) {
	s := source(t, decls)
	b := body(t, "set 3 = 6 0 0 0; yield copy 3.-1 1", "print copy 3.-1; goto 0", "print copy 3.-1; goto 1")
	for _, x := range []struct {
		block, step int
		want        string
	}{
		{0, 0, "-"}, {0, 1, "0"}, {0, 2, "0"}, {0, 3, "-"}, {0, 4, "-"}, {0, -1, "-"},
		{1, 0, "0"}, {1, 1, "-"}, {1, 2, "-"}, {1, -1, "-"},
		{2, 0, "-"}, {2, 1, "-"}, {2, 2, "-"}, // it is not reached
		{3, 0, "-"}, {-1, 0, "-"}, {-1, -1, "-"},
		{0, 1 << 62, "-"}, {0, -1 << 63, "-"}, {1 << 62, 0, "-"}, {1<<63 - 1, 1<<63 - 1, "-"}, {-1 << 63, 1, "-"},
	} {
		is(t, itoa(x.block)+":"+itoa(x.step), numbers(borrows.Active(s, b, x.block, x.step)), x.want)
	}
	still := body(t, "set 3 = 6 0 0 0; goto 0") // all that is held comes back
	is(t, "behind the end", numbers(borrows.Active(s, still, 0, 2)), "-")
	used := body(t, "print copy 3.-1; set 3 = 6 0 0 0; goto 0")
	for step, want := range []string{"0", "-", "0", "0", "-", "-"} {
		is(t, "a step "+itoa(step), numbers(borrows.Active(s, used, 0, step)), want)
	}
}

// TestLent: what is lent where a body may be suspended.
func TestLent(t *testing.T) {
	for _, x := range []struct {
		about  string
		blocks []string
		want   string
	}{
		{"nothing", []string{"return #0"}, "-"},
		{"a yield", []string{"set 3 = 6 0 0 0; yield #1 1", "return copy 3.-1"}, "x | -"},
		{"an await", []string{"set 3 = 6 0 0 0; await 1 11 1", "return copy 3.-1"}, "x | -"},
		{"a wait", []string{"set 3 = 6 0 0 0; wait 1 #1 1", "return copy 3.-1"}, "x | -"},
		{"a poll suspends nothing", []string{"set 3 = 6 0 0 0; poll 1 11 1", "return copy 3.-1"}, "- | -"},
		{"a goto", []string{"set 3 = 6 0 0 0; goto 1", "return copy 3.-1"}, "- | -"},
		{"an if", []string{"set 3 = 6 0 0 0; if #1 1 1", "return copy 3.-1"}, "- | -"},
		{"a match", []string{"set 3 = 6 0 0 0; match 9 1 1 1", "return copy 3.-1"}, "- | -"},
		{"used no more", []string{"set 3 = 6 0 0 0; yield copy 3.-1 1", "return #0"}, "- | -"},
		{"used by the end, but no more behind it", []string{"set 5 = 7 0 0 0; wait 5.-1 #1 1", "return #0"}, "- | -"},
		{"used by the end, and behind it", []string{"set 5 = 7 0 0 0; wait 5.-1 #1 1", "return copy 5.-1"}, "x | -"},
		{"set anew", []string{"set 3 = 6 0 0 0; yield #1 1", "set 3 = 6 0 0 1; yield #1 2", "return copy 3.-1"}, "- | y | -"},
		{"a part", []string{"set 3 = 6 0 0 12.1.0; yield #1 1", "return copy 3.-1"}, "w | -"},
		{"what is in a box", []string{"set 3 = 6 0 0 10.-1.0; yield #1 1", "return copy 3.-1"}, "b | -"},
		{"the result", []string{"set 3 = 6 0 0 37; yield #1 1", "return copy 3.-1"}, " | -"},
		{"two", []string{"set 3 = 6 0 0 0; set 5 = 7 0 0 2.0; yield #1 1", "print copy 3.-1; return copy 5.-1"}, "x,p | -"},
		{"one by two", []string{"set 3 = 6 0 0 0; set 4 = 6 0 0 0; yield #1 1", "print copy 3.-1; return copy 4.-1"}, "x | -"},
		{"what a reference is of, and not the reference", []string{"set 8 = 7 0 0 2; set 5 = 7 0 0 8.-1.0; yield #1 1", "return copy 5.-1"}, "p | -"},
		{"what a shared reference is of", []string{"set 7 = 6 0 0 2; set 3 = 6 0 0 7.-1.0; yield #1 1", "return copy 3.-1"}, "p | -"},
		{"of what was handed in", []string{"set 3 = 6 0 0 4.-1; set 5 = 7 0 0 6.-1; yield #1 1", "print copy 3.-1; return copy 5.-1"}, "- | -"},
		{"lent on one way", []string{"if #1 1 2", "set 3 = 6 0 0 0; goto 3", "set 3 = 6 0 0 1; goto 3", "yield #1 4", "return copy 3.-1"}, "- | - | - | x,y | -"},
		{"used on one way", []string{"set 3 = 6 0 0 0; yield #1 1", "if #1 2 3", "return copy 3.-1", "return #0"}, "x | - | - | -"},
		{"a ring", []string{"set 3 = 6 0 0 0; goto 1", "print copy 3.-1; set 3 = 6 0 0 1; yield #1 1"}, "- | y"},
		{"block by block", []string{"set 3 = 6 0 0 0; yield #1 1", "set 4 = 6 0 0 1; yield #1 2", "print copy 3.-1; yield #1 3", "return copy 4.-1"}, "x | x,y | y | -"},
		{"not reached", []string{"return #0", "set 3 = 6 0 0 0; yield #1 2", "return copy 3.-1"}, "- | - | -"},
		{"what is barred is lent, too", []string{"set 3 = 6 0 0 0; set 0 = 0 0 0 #1; yield #1 1", "return copy 3.-1"}, "x | -"},
	} {
		b := body(t, x.blocks...)
		is(t, x.about, lent(t, b, borrows.Lent(source(t, decls), b)), x.want)
	}
}

// TestLentTexts: what is lent in coroutines, where each is suspended.
func TestLentTexts(t *testing.T) {
	for _, x := range []struct{ text, want string }{
		{"let m: &mut int = &mut x; yield 1; m.* = 2;", "x | -"},
		{"let m: &mut int = &mut x; m.* = 2; yield x;", "- | -"},
		{"let r: &int = &p.x; y = await c; print r.*;", "p | -"},
		{"let r: &int = &x; y = wait r.*; print r.*;", "x | -"},
		{"let r: &int = &x; y = poll c; print r.*;", "- | -"},
		{"let r: &int = &x; while y { yield r.*; y = y - 1; }", "- | - | x | - | -"},
		{"let m: &mut P = &mut p; let n: &mut int = &mut m.*.x; yield 1; n.* = 1;", "p | -"},
		{"let r: &int = &x; if y { r = &p.x; } else { r = &p.y; yield 1; } yield r.*; print r.*;", "- | - | p | - | p | -"},
	} {
		s := source(t, head+x.text+" return 0; }"+decls)
		b := build.Body(s, 0)
		if len(b.Blocks) == 0 {
			t.Fatalf("nothing is built of %s", x.text)
		}
		is(t, x.text, lent(t, b, borrows.Lent(s, b)), x.want)
	}
}

// TestNone: a body without a loan bars nothing, and lends nothing.
func TestNone(t *testing.T) {
	s := source(t, decls)
	b := body(t, "live 3; set 3 = 0 0 0 copy 4; set 0 = 0 0 0 copy 3.-1; if copy 0 1 2", "set 2 = 0 0 0 move 2; wait 5.-1 copy 3.-1 2", "drop 13; dead 0; return copy 3.-1", "drop 0; goto 0")
	checked(t, "none", s, b, api.OK, 0)
	is(t, "active", active(b, asked(s, b)), "-; -; -; -; - | -; -; - | -; -; -; - | -; -; -")
	is(t, "lent", lent(t, b, borrows.Lent(s, b)), "- | - | - | -")
	alone := api.Body{Locals: []api.Local{{Ty: api.Ty{K: api.TyInt}}}, Blocks: []api.Block{{End: api.Tm{K: api.TmYield, At: 5, U: api.Use{S: api.Spot{}}, To: []int{0}}}}}
	checked(t, "the result alone", api.Source{}, alone, api.OK, 0)
	is(t, "active", active(alone, asked(api.Source{}, alone)), "-; -")
	is(t, "lent", lent(t, alone, borrows.Lent(api.Source{}, alone)), "-")
}
