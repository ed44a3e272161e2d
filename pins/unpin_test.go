package pins_test

import (
	"testing"

	"cocoon/api"
	"cocoon/build"
	"cocoon/pins"
)

// lender are the locals of bodies whose references are asked about.
const lender = `f 2
	0 x int
	1 y int
	2 p P
	3 r &int
	4 q &int
	5 m &mut int
	6 n &mut int
	7 v &P
	8 k &mut P
	9 e E
	10 b box P
	11 c co s
	12 d D
	13  int
`

// TestUnpin: bodies of which a local is lent at an end of each kind, or none is.
func TestUnpin(t *testing.T) {
	for _, x := range []struct {
		about  string
		blocks []string
		want   bool
	}{
		{"nothing", []string{"return #0"}, true},
		{"without a loan", []string{"yield copy 0 1", "await 0 11 2", "wait 1 #1 0"}, true},
		{"a yield", []string{"set 3 = 6 0 0 0; yield #1 1", "return copy 3.-1"}, false},
		{"an await", []string{"set 3 = 6 0 0 0; await 1 11 1", "return copy 3.-1"}, false},
		{"a wait", []string{"set 3 = 6 0 0 0; wait 1 #1 1", "return copy 3.-1"}, false},
		{"a poll", []string{"set 3 = 6 0 0 0; poll 1 11 1", "return copy 3.-1"}, true},
		{"a goto", []string{"set 3 = 6 0 0 0; goto 1", "return copy 3.-1"}, true},
		{"an if", []string{"set 3 = 6 0 0 0; if #1 1 1", "return copy 3.-1"}, true},
		{"a match", []string{"set 3 = 6 0 0 0; match 9 1 1 1", "return copy 3.-1"}, true},
		{"a return", []string{"set 3 = 6 0 0 0; return copy 3.-1"}, true},
		{"all of these", []string{"set 3 = 6 0 0 0; poll 1 11 1", "goto 2", "if #1 3 3", "match 9 4 4 4", "return copy 3.-1"}, true},
		{"all of these, and a yield", []string{"set 3 = 6 0 0 0; poll 1 11 1", "goto 2", "if #1 3 3", "match 9 4 4 4", "yield #1 5", "return copy 3.-1"}, false},
		{"one that may be changed by it", []string{"set 5 = 7 0 0 0; yield #1 1", "set 5.-1 = 0 0 0 #1; return #0"}, false},
		{"used by the end, and no more", []string{"set 3 = 6 0 0 0; yield copy 3.-1 1", "return #0"}, true},
		{"set by the end, and no more used", []string{"set 5 = 7 0 0 0; wait 5.-1 #1 1", "return #0"}, true},
		{"set anew behind it", []string{"set 3 = 6 0 0 0; yield #1 1", "set 3 = 6 0 0 1; return copy 3.-1"}, true},
		{"made behind it", []string{"yield #1 1", "set 3 = 6 0 0 0; return copy 3.-1"}, true},
		{"dropped behind it", []string{"set 3 = 6 0 0 0; yield #1 1", "end 3; return #0"}, false},
		{"ended behind it", []string{"set 3 = 6 0 0 0; yield #1 1", "dead 3; return #0"}, true},
		{"lent at the second yield", []string{"yield #1 1", "set 3 = 6 0 0 0; yield #1 2", "return copy 3.-1"}, false},
		{"lent at the first yield", []string{"set 3 = 6 0 0 0; yield #1 1", "print copy 3.-1; yield #1 2", "return #0"}, false},
		{"a part", []string{"set 3 = 6 0 0 2.1; yield #1 1", "return copy 3.-1"}, false},
		{"what is in a box", []string{"set 3 = 6 0 0 10.-1.0; yield #1 1", "return copy 3.-1"}, false},
		{"what drops", []string{"set 3 = 6 0 0 12.0; yield #1 1", "return copy 3.-1"}, false},
		{"the result", []string{"set 3 = 6 0 0 13; yield #1 1", "return copy 3.-1"}, false},
		{"the last one handed in", []string{"set 3 = 6 0 0 1; yield #1 1", "return copy 3.-1"}, false},
		{"two", []string{"set 3 = 6 0 0 0; set 5 = 7 0 0 1; yield #1 1", "print copy 3.-1; return copy 5.-1"}, false},
		{"held by another one", []string{"set 3 = 6 0 0 0; set 4 = 0 0 0 copy 3; yield #1 1", "return copy 4.-1"}, false},
		{"a reference alone", []string{"set 3 = 6 0 0 4.-1; yield #1 1", "return copy 3.-1"}, true},
		{"references alone", []string{"set 3 = 6 0 0 7.-1.0; set 5 = 7 0 0 8.-1.1; set 4 = 6 0 0 5.-1; yield #1 1", "print copy 3.-1; return copy 4.-1"}, true},
		{"what a reference is of", []string{"set 8 = 7 0 0 2; set 5 = 7 0 0 8.-1.0; yield #1 1", "return copy 5.-1"}, false},
		{"on one way", []string{"if #1 1 2", "set 3 = 6 0 0 0; goto 3", "goto 3", "yield #1 4", "return copy 3.-1"}, false},
		{"used on one way", []string{"set 3 = 6 0 0 0; yield #1 1", "if #1 2 3", "return copy 3.-1", "return #0"}, false},
		{"suspended on the other way", []string{"set 3 = 6 0 0 0; if #1 1 2", "return copy 3.-1", "yield #1 3", "return #0"}, true},
		{"a ring", []string{"yield #1 1", "print copy 3.-1; set 3 = 6 0 0 0; goto 0"}, false},
		{"a ring that holds it no more", []string{"yield #1 1", "set 3 = 6 0 0 0; print copy 3.-1; goto 0"}, true},
		{"not reached", []string{"return #0", "set 3 = 6 0 0 0; yield #1 2", "return copy 3.-1"}, true},
		{"not reached, but for what uses it", []string{"goto 2", "set 3 = 6 0 0 0; yield #1 2", "return copy 3.-1"}, true},
		{"used where it is not reached", []string{"set 3 = 6 0 0 0; yield #1 1", "return #0", "print copy 3.-1; goto 1"}, true},
		{"what is barred", []string{"set 3 = 6 0 0 0; set 0 = 0 0 0 #1; yield #1 1", "return copy 3.-1"}, false},
	} {
		s := source(t, decls)
		if got := pins.Unpin(s, read(t, s, lender+told(x.blocks...))); got != x.want {
			t.Errorf("%s: %v", x.about, got)
		}
	}
}

// TestUnpinTexts: coroutines that hold something of their own where they are suspended, and others.
func TestUnpinTexts(t *testing.T) {
	for _, x := range []struct {
		text string
		want bool
	}{
		{"", true},
		{"yield x; x = wait x; x = await c;", true},
		{"let m: &mut int = &mut x; yield 1; m.* = 2;", false},
		{"let m: &mut int = &mut x; m.* = 2; yield 1;", true},
		{"let m: &mut int = &mut x; yield m.*;", true},
		{"let r: &int = &x; y = await c; print r.*;", false},
		{"let r: &int = &x; y = wait r.*; print r.*;", false},
		{"let r: &int = &x; y = poll c; print r.*;", true},
		{"let r: &int = &b.*.x; yield 1; print r.*;", false},
		{"let r: &int = &x; while y { yield r.*; y = y - 1; }", false},
		{"while y { let r: &int = &x; print r.*; yield 1; }", true},
		{"let r: &int = &x; if y { yield 1; return 0; } print r.*;", true},
		{"let r: &int = &x; if y { yield 1; } print r.*;", false},
		{"let m: &mut P = &mut p; let n: &mut int = &mut m.*.x; yield 1; n.* = 1;", false},
		{"let r: &int = &x; yield 1; r = &y; print r.*;", true},
		{"let r: &co g = &c; yield 1; drop r;", false},
	} {
		s := source(t, "co f(x: int, y: int, p: P, b: box P, c: co g) { "+x.text+" return 0; }"+decls)
		if got := pins.Unpin(s, built(t, s)[0]); got != x.want {
			t.Errorf("%s: %v", x.text, got)
		}
	}
	s := source(t, decls)
	for fn, want := range []bool{false, true, true} {
		if got := pins.Unpin(s, build.Body(s, fn)); got != want {
			t.Errorf("%s: %v", s.Fns[fn].Name, got)
		}
	}
	if !pins.Unpin(api.Source{}, build.Body(s, 1)) || pins.Unpin(api.Source{}, build.Body(s, 2)) {
		t.Error("by another source") // in which h's parameters have no types
	}
}
