package tree_test

import (
	"strings"
	"testing"

	"cocoon/api"
	"cocoon/tree"
)

func field(name string, t api.Ty) api.Field { return api.Field{Name: name, Ty: t} }

// inRow is a source of one coroutine that has these statements.
func inRow(body ...api.Stmt) api.Source {
	return api.Source{Fns: []api.Fn{{Name: "f", Body: body}}}
}

// row fails, if statements have not these lines, in the coroutine's braces.
func row(t *testing.T, body []api.Stmt, lines ...string) {
	t.Helper()
	wanted := "co f() {\n"
	for _, x := range lines {
		wanted += "\t" + x + "\n"
	}
	text(t, tree.Text(inRow(body...)), wanted+"}\n")
}

// one fails, if a statement has not these lines.
func one(t *testing.T, s api.Stmt, lines ...string) {
	t.Helper()
	row(t, []api.Stmt{s}, lines...)
}

func prints(n int) api.Stmt { return api.Stmt{K: api.StPrint, Op: number(n)} }

func TestItems(t *testing.T) {
	num := ty(api.TyInt, "")
	unit, held := api.Variant{Name: "A"}, api.Variant{Name: "B", Ty: ty(api.TyStruct, "S")}
	for _, x := range []struct {
		s      api.Source
		wanted string
	}{
		{api.Source{}, ""},
		{api.Source{Structs: []api.Struct{{Name: "S"}}}, "struct S {}\n"},
		{api.Source{Structs: []api.Struct{{Name: "S", Drop: true}}}, "drop struct S {}\n"},
		{api.Source{Structs: []api.Struct{{Name: "S", Fields: []api.Field{field("a", num)}}}}, "struct S { a: int }\n"},
		{
			api.Source{Structs: []api.Struct{{Name: "S", Drop: true, Fields: []api.Field{field("a", num), field("b", ty(api.TyBox, "", num)), field("", api.Ty{})}}}},
			"drop struct S { a: int, b: box int, : ? }\n",
		},
		{api.Source{Enums: []api.Enum{{Name: "E"}}}, "enum E {}\n"},
		{api.Source{Enums: []api.Enum{{Name: "E", Variants: []api.Variant{unit}}}}, "enum E { A }\n"},
		{api.Source{Enums: []api.Enum{{Name: "E", Variants: []api.Variant{held, unit, {Name: "C", Ty: ty(-1, "")}}}}}, "enum E { B(S), A, C(?) }\n"},
		{api.Source{Enums: []api.Enum{{Name: "E", Variants: []api.Variant{{Name: "A", Ty: ty(api.TyUnit, "U", num)}}}}}, "enum E { A }\n"},
		{api.Source{Fns: []api.Fn{{Name: "f"}}}, "co f() {\n}\n"},
		{api.Source{Fns: []api.Fn{{Name: "f", Params: []api.Field{field("x", num)}}}}, "co f(x: int) {\n}\n"},
		{api.Source{Fns: []api.Fn{{Name: "f", Params: []api.Field{field("x", num), field("y", ty(api.TyCo, "g"))}}}}, "co f(x: int, y: co g) {\n}\n"},
	} {
		text(t, tree.Text(x.s), x.wanted)
	}
}

// TestOrder: first all structs, then enums, then coroutines, wherever they stood.
func TestOrder(t *testing.T) {
	text(t, tree.Text(api.Source{
		Fns:     []api.Fn{{Name: "g", At: 1}, {Name: "f", At: 0, Body: []api.Stmt{prints(1)}}},
		Enums:   []api.Enum{{Name: "F", At: 3}, {Name: "E", At: 2}},
		Structs: []api.Struct{{Name: "T", At: 5}, {Name: "S", At: 4}},
	}), "struct T {}\nstruct S {}\nenum F {}\nenum E {}\nco g() {\n}\nco f() {\n\tprint 1;\n}\n")
}

func TestStatements(t *testing.T) {
	x, far, num := place("x"), place("x", "*", "f"), ty(api.TyInt, "")
	use := set(api.RvUse, number(1))
	one(t, api.Stmt{K: api.StLet, Name: "a", Ty: num, Rv: use}, "let a: int = 1;")
	one(t, api.Stmt{K: api.StLet, Name: "a", Ty: ty(api.TyMut, "", num), Rv: setOf(api.RvMut, far)}, "let a: &mut int = &mut x.*.f;")
	one(t, api.Stmt{}, "let : ? = ?;")
	one(t, api.Stmt{K: api.StSet, P: far, Rv: set(api.RvAdd, at("x"), number(1))}, "x.*.f = x + 1;")
	one(t, api.Stmt{K: api.StYield, Op: number(-1)}, "yield -1;")
	one(t, api.Stmt{K: api.StReturn, Op: at("x", "f")}, "return x.f;")
	one(t, api.Stmt{K: api.StPrint, Op: at("x")}, "print x;")
	one(t, api.Stmt{K: api.StDrop, P: x}, "drop x;")
	one(t, api.Stmt{K: api.StDrop, P: far}, "drop x.*.f;")
	for _, k := range []api.StKind{-1, api.StDrop + 1, 1 << 62, -1 << 63} {
		one(t, api.Stmt{K: k, Name: "a", P: x, Rv: use, Then: []api.Stmt{prints(1)}}, "?")
	}
	row(t, []api.Stmt{prints(1), {K: -1}, prints(2)}, "print 1;", "?", "print 2;")
}

func TestBlocks(t *testing.T) {
	then, other := []api.Stmt{prints(1), prints(2)}, []api.Stmt{prints(3)}
	one(t, api.Stmt{K: api.StIf, Op: at("x")}, "if x {", "}")
	one(t, api.Stmt{K: api.StIf, Op: at("x"), Else: []api.Stmt{}}, "if x {", "}")
	one(t, api.Stmt{K: api.StIf, Op: at("x"), Then: then}, "if x {", "\tprint 1;", "\tprint 2;", "}")
	one(t, api.Stmt{K: api.StIf, Op: at("x"), Else: other}, "if x {", "} else {", "\tprint 3;", "}")
	one(t, api.Stmt{K: api.StIf, Op: number(1), Then: then, Else: other}, "if 1 {", "\tprint 1;", "\tprint 2;", "} else {", "\tprint 3;", "}")
	one(t, api.Stmt{K: api.StWhile, Op: at("x")}, "while x {", "}")
	one(t, api.Stmt{K: api.StWhile, Op: at("x"), Then: then, Else: other}, "while x {", "\tprint 1;", "\tprint 2;", "}")
	one(t, api.Stmt{K: api.StMatch, P: place("x")}, "match x {", "}")
	arms := []api.Arm{{Variant: "A"}, {Variant: "B", Bind: "b", Body: then}, {Body: other}}
	one(t, api.Stmt{K: api.StMatch, P: place("x", "f"), Arms: arms, Then: then},
		"match x.f {", "\tA => {", "\t}", "\tB(b) => {", "\t\tprint 1;", "\t\tprint 2;", "\t}", "\t => {", "\t\tprint 3;", "\t}", "}")
}

// TestTabs: what stands behind a block stands as far in as what stood ahead of it.
func TestTabs(t *testing.T) {
	inner := api.Stmt{K: api.StWhile, Op: number(0), Then: []api.Stmt{prints(1)}}
	arm := api.Arm{Variant: "A", Body: []api.Stmt{inner, prints(2)}}
	match := api.Stmt{K: api.StMatch, P: place("x"), Arms: []api.Arm{arm, {Variant: "B"}}}
	both := api.Stmt{K: api.StIf, Op: number(1), Then: []api.Stmt{match, prints(3)}, Else: []api.Stmt{inner, prints(4)}}
	s := inRow(both, prints(5))
	s.Fns = append(s.Fns, api.Fn{Name: "g", Body: []api.Stmt{prints(6)}})
	text(t, tree.Text(s), strings.Join([]string{
		"co f() {",
		"\tif 1 {",
		"\t\tmatch x {",
		"\t\t\tA => {",
		"\t\t\t\twhile 0 {",
		"\t\t\t\t\tprint 1;",
		"\t\t\t\t}",
		"\t\t\t\tprint 2;",
		"\t\t\t}",
		"\t\t\tB => {",
		"\t\t\t}",
		"\t\t}",
		"\t\tprint 3;",
		"\t} else {",
		"\t\twhile 0 {",
		"\t\t\tprint 1;",
		"\t\t}",
		"\t\tprint 4;",
		"\t}",
		"\tprint 5;",
		"}",
		"co g() {",
		"\tprint 6;",
		"}",
		"",
	}, "\n"))
}

// TestTextDeep: Text tells what is nested deeper than what could have been read.
func TestTextDeep(t *testing.T) {
	const deep = 2000
	body := []api.Stmt{prints(1)}
	for range deep {
		body = []api.Stmt{{K: api.StWhile, Op: number(0), Then: body}}
	}
	got := tree.Text(inRow(body...))
	if wanted := strings.Repeat("\t", deep+1) + "print 1;\n" + strings.Repeat("\t", deep) + "}\n"; !strings.Contains(got, wanted) {
		t.Error("the innermost lines are others")
	}
	if n := strings.Count(got, "\n"); n != 2*deep+3 {
		t.Errorf("%d lines", n)
	}
	if !strings.HasPrefix(got, "co f() {\n\twhile 0 {\n\t\twhile 0 {\n") || !strings.HasSuffix(got, "\n\t\t}\n\t}\n}\n") {
		t.Error("the outermost lines are others")
	}
}
