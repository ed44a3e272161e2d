package parse_test

import (
	"math"
	"testing"

	"cocoon/api"
)

func TestStatements(t *testing.T) {
	within := func(at int) []api.Stmt { return []api.Stmt{{K: api.StPrint, At: at, Op: number(1)}} }
	inRow(t, "")
	inRow(t, "let a: int = 1;", api.Stmt{K: api.StLet, Name: "a", Ty: num(), Rv: set(api.RvUse, number(1))})
	inRow(t, "x = 1;", api.Stmt{K: api.StSet, P: place("x"), Rv: set(api.RvUse, number(1))})
	inRow(t, "x.f.*.*.g=y.*;", api.Stmt{K: api.StSet, P: place("x", "f", "*", "*", "g"), Rv: set(api.RvUse, at("y", "*"))})
	inRow(t, "if x {}", api.Stmt{K: api.StIf, Op: at("x")})
	inRow(t, "if x.* {} else {}", api.Stmt{K: api.StIf, Op: at("x", "*")})
	inRow(t, "if -1{print 1;}", api.Stmt{K: api.StIf, Op: number(-1), Then: within(6)})
	inRow(t, "if 0 {} else { print 1; }", api.Stmt{K: api.StIf, Op: number(0), Else: within(15)})
	inRow(t, "if 0 { print 1; } else { print 1; }", api.Stmt{K: api.StIf, Op: number(0), Then: within(7), Else: within(25)})
	inRow(t, "while x {}", api.Stmt{K: api.StWhile, Op: at("x")})
	inRow(t, "while 1 { print 1; }", api.Stmt{K: api.StWhile, Op: number(1), Then: within(10)})
	inRow(t, "match x {}", api.Stmt{K: api.StMatch, P: place("x")})
	inRow(t, "match x { A => {} }", api.Stmt{K: api.StMatch, P: place("x"), Arms: []api.Arm{{Variant: "A"}}})
	inRow(t, "match x { A(a) => { print 1; } B => {} A => { print 1; } }", api.Stmt{K: api.StMatch, P: place("x"), Arms: []api.Arm{
		{Variant: "A", Bind: "a", Body: within(20)}, {Variant: "B"}, {Variant: "A", Body: within(46)},
	}})
	inRow(t, "yield x;", api.Stmt{K: api.StYield, Op: at("x")})
	inRow(t, "return -7;", api.Stmt{K: api.StReturn, Op: number(-7)})
	inRow(t, "print x.f;", api.Stmt{K: api.StPrint, Op: at("x", "f")})
	inRow(t, "drop x;", api.Stmt{K: api.StDrop, P: place("x")})
}

// TestRows: statements stand one behind the other, each in its own block, and nothing stands between them.
func TestRows(t *testing.T) {
	inRow(t, "drop x;drop y; // drop z;\nif 1 { if 2 { drop a; } drop b; } else { while 3 {} drop c; } drop d;",
		api.Stmt{K: api.StDrop, P: place("x")},
		api.Stmt{K: api.StDrop, At: 7, P: place("y")},
		api.Stmt{K: api.StIf, At: 26, Op: number(1),
			Then: []api.Stmt{
				{K: api.StIf, At: 33, Op: number(2), Then: []api.Stmt{{K: api.StDrop, At: 40, P: place("a")}}},
				{K: api.StDrop, At: 50, P: place("b")},
			},
			Else: []api.Stmt{{K: api.StWhile, At: 67, Op: number(3)}, {K: api.StDrop, At: 78, P: place("c")}}},
		api.Stmt{K: api.StDrop, At: 88, P: place("d")})
	inRow(t, "if 1 {} if 2 {} else {} while 3 {}",
		api.Stmt{K: api.StIf, Op: number(1)},
		api.Stmt{K: api.StIf, At: 8, Op: number(2)},
		api.Stmt{K: api.StWhile, At: 24, Op: number(3)})
}

func TestSets(t *testing.T) {
	for s, wanted := range map[string]api.Rv{
		"x":                       set(api.RvUse, at("x")),
		"x.*.f":                   set(api.RvUse, at("x", "*", "f")),
		"x + 1":                   set(api.RvAdd, at("x"), number(1)),
		"1 - x":                   set(api.RvSub, number(1), at("x")),
		"x-1":                     set(api.RvSub, at("x"), number(1)),
		"x - -1":                  set(api.RvSub, at("x"), number(-1)),
		"-1--1":                   set(api.RvSub, number(-1), number(-1)),
		"x * y":                   set(api.RvMul, at("x"), at("y")),
		"x.* * y.*":               set(api.RvMul, at("x", "*"), at("y", "*")),
		"x.**y":                   set(api.RvMul, at("x", "*"), at("y")),
		"x < y.f":                 set(api.RvLess, at("x"), at("y", "f")),
		"x<-1":                    set(api.RvLess, at("x"), number(-1)),
		"0 == x":                  set(api.RvSame, number(0), at("x")),
		"x==-0":                   set(api.RvSame, at("x"), number(0)),
		"&x":                      setOf(api.RvRef, "x"),
		"&x.*.f":                  setOf(api.RvRef, "x", "*", "f"),
		"&mut x":                  setOf(api.RvMut, "x"),
		"&mut x.f.*":              setOf(api.RvMut, "x", "f", "*"),
		"box 1":                   set(api.RvBox, number(1)),
		"box x.f":                 set(api.RvBox, at("x", "f")),
		"unbox x":                 setOf(api.RvUnbox, "x"),
		"start f()":               named(api.RvStart, "f", ""),
		"start f(-1)":             named(api.RvStart, "f", "", number(-1)),
		"start f(x,y.*,0)":        named(api.RvStart, "f", "", at("x"), at("y", "*"), number(0)),
		"await x":                 setOf(api.RvAwait, "x"),
		"poll x":                  setOf(api.RvPoll, "x"),
		"wait 5":                  set(api.RvWait, number(5)),
		"wait x.*":                set(api.RvWait, at("x", "*")),
		"S()":                     named(api.RvMake, "S", ""),
		"S(x)":                    named(api.RvMake, "S", "", at("x")),
		"S ( 1 , x.f , - 3 , y )": named(api.RvMake, "S", "", number(1), at("x", "f"), number(-3), at("y")),
		"E::A":                    named(api.RvVariant, "E", "A"),
		"E :: A ( x.* )":          named(api.RvVariant, "E", "A", at("x", "*")),
		"E::E(-2)":                named(api.RvVariant, "E", "E", number(-2)),
		"Let::Box(lets)":          named(api.RvVariant, "Let", "Box", at("lets")),
		"9223372036854775807":     set(api.RvUse, number(math.MaxInt)),
		"-9223372036854775807":    set(api.RvUse, number(-math.MaxInt)),
		"- 0":                     set(api.RvUse, number(0)),
		"007 + -00":               set(api.RvAdd, number(7), number(0)),
		"-// -1\n\t12 // - 3\n":   set(api.RvUse, number(-12)),
	} {
		inRow(t, "x = "+s+";", api.Stmt{K: api.StSet, P: place("x"), Rv: wanted})
		inRow(t, "let a: int="+s+"\n;", api.Stmt{K: api.StLet, Name: "a", Ty: num(), Rv: wanted})
	}
}
