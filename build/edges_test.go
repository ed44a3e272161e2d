package build_test

import (
	"slices"
	"strings"
	"testing"

	"cocoon/api"
	"cocoon/build"
)

// lets are so many, as a text; what they make drops.
func lets(n int) string {
	var text strings.Builder
	for i := range n {
		text.WriteString("let l" + itoa(i) + ": box int = box " + itoa(i) + ";\n")
	}
	return text.String()
}

// TestNames: as many as a coroutine may have, and the result behind them.
func TestNames(t *testing.T) {
	for _, text := range []string{
		"co f(" + parameters(200) + ") { return p199; }",
		"co f() { " + lets(200) + " return 0; }",
		"co f(" + parameters(100) + ") { " + lets(100) + " return p0; }",
		"co f(" + parameters(99) + ", e: E) { if p1 { " + lets(95) + " } match e { A => { return 1; } B(b) => {} C(c) => {} X(x) => {} Y(y) => { return 2; } Z(z) => {} } return p0; }",
	} {
		s := source(t, text+decls)
		b := build.Body(s, 0)
		if len(b.Locals) != 201 || b.Locals[200].Name != "" {
			t.Errorf("%d locals of %.80s", len(b.Locals), text)
		}
		agrees(t, s)
		isRefused(t, "a name too many", source(t, strings.Replace(text, "{", "{ let more: int = 1; ", 1)+decls))
	}
}

// TestLongPlace: a place with as many steps as a text has room for.
func TestLongPlace(t *testing.T) {
	const n = 15000
	s := source(t, "co f(s: S) { return s"+strings.Repeat(".b.*", n)+".n; }"+decls)
	want := append(slices.Repeat([]int{4, -1}, n), 0)
	b := build.Body(s, 0)
	if got := b.Blocks[0].Ins[0].V.Uses[0]; got.Move || got.S.Local != 0 || !slices.Equal(got.S.Path, want) {
		t.Errorf("%d steps, want %d", len(got.S.Path), len(want))
	}
	holds(t, "a long place", s, b)
}

// TestLongText: returns that each leave many locals, as many as a text has room for.
func TestLongText(t *testing.T) {
	const names, ways = 40, 3000
	text := "co f() { " + lets(names) + strings.Repeat("if 1 { return 2; }\n", ways) + "return 3; }"
	s := source(t, text)
	b := build.Body(s, 0)
	if len(b.Blocks) != 1+3*ways {
		t.Fatalf("%d blocks", len(b.Blocks))
	}
	for i, x := range b.Blocks {
		if x.End.K == api.TmReturn && len(x.Ins) != 1+2*names {
			t.Errorf("block %d has %d steps", i, len(x.Ins))
		}
	}
	holds(t, "a long text", s, b)
}

// TestPlacesOf: steps and ends tell of places as the statements and coroutines do, whatever those are.
func TestPlacesOf(t *testing.T) {
	text := "co f(e: E) { let a: int = 1; while a { let b: D = D(1); } match e { A => { let c: int = wait 1; } B(n) => { print n; } C(p) => {} X(x) => {} Y(y) => {} Z(z) => { drop z; } } return a; }"
	s := source(t, text+decls)
	places := []int{-1, 0, 0, 7, -9223372036854775808, 9223372036854775807, 3}
	var spread func(l []api.Stmt)
	spread = func(l []api.Stmt) {
		for i := range l {
			l[i].At = places[0]
			places = append(places[1:], places[0])
			spread(l[i].Then)
			for j := range l[i].Arms {
				spread(l[i].Arms[j].Body)
			}
		}
	}
	for range 7 {
		s.Fns[0].At = places[3]
		spread(s.Fns[0].Body)
		agrees(t, s)
		places = append(places[2:], places[:2]...)
	}
}
