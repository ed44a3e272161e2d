package parse_test

import (
	"reflect"
	"strings"
	"testing"

	"cocoon/api"
	"cocoon/parse"
	"cocoon/tree"
)

func ty(k api.TyKind, name string, l ...api.Ty) api.Ty {
	return api.Ty{K: k, Name: name, L: l}
}

func num() api.Ty { return ty(api.TyInt, "") }

func field(name string, t api.Ty) api.Field { return api.Field{Name: name, Ty: t} }

func number(n int) api.Oper { return api.Oper{Num: true, N: n} }

// place is a name and steps: to fields, or, by *, to what it is the address of.
func place(name string, steps ...string) api.Place {
	p := api.Place{Name: name}
	for _, x := range steps {
		if x == "*" {
			x = ""
		}
		p.Path = append(p.Path, api.Step{Field: x})
	}
	return p
}

func at(name string, steps ...string) api.Oper {
	return api.Oper{P: place(name, steps...)}
}

func set(k api.RvKind, ops ...api.Oper) api.Rv {
	return api.Rv{K: k, Ops: ops}
}

func setOf(k api.RvKind, name string, steps ...string) api.Rv {
	return api.Rv{K: k, P: place(name, steps...)}
}

func named(k api.RvKind, name, variant string, ops ...api.Oper) api.Rv {
	return api.Rv{K: k, Name: name, Variant: variant, Ops: ops}
}

// plain is a source in which all lists without things are nil.
func plain(s api.Source) api.Source {
	v := reflect.New(reflect.TypeOf(s)).Elem()
	v.Set(reflect.ValueOf(s))
	each(v, func(l reflect.Value) {
		if l.Len() == 0 {
			l.SetZero()
		}
	})
	return v.Interface().(api.Source)
}

// each calls something for each list within a value, an outer one first.
func each(v reflect.Value, do func(reflect.Value)) {
	switch v.Kind() {
	case reflect.Struct:
		for i := range v.NumField() {
			each(v.Field(i), do)
		}
	case reflect.Slice:
		do(v)
		for i := range v.Len() {
			each(v.Index(i), do)
		}
	}
}

// reads fails, if a text is not read as this source, all of it, or is not read again from what is written of it.
func reads(t *testing.T, s string, wanted api.Source) {
	t.Helper()
	got, err, where := parse.Parse(s)
	if err != api.OK || where != 0 || !reflect.DeepEqual(plain(got), plain(wanted)) {
		t.Errorf("Parse(%.200q):\n%+v, %v, %d, want\n%+v", s, got, err, where, wanted)
		return
	}
	readAgain(t, s, got)
}

// readAgain fails, if what was read of a text is not valid, or if what is written of it is not read as the same.
func readAgain(t *testing.T, s string, got api.Source) {
	t.Helper()
	if !tree.Valid(got) {
		t.Errorf("Parse(%.200q): %+v is not valid", s, got)
	}
	again, err, where := parse.Parse(tree.Text(got))
	if err != api.OK || where != 0 || !tree.Same(again, got) {
		t.Errorf("Parse(%.200q): written and read again it is %+v, %v, %d, want %+v", s, again, err, where, got)
	}
}

// errs fails, if a text has not this error there, and nothing beside it.
func errs(t *testing.T, s string, wanted api.Errno, where int) {
	t.Helper()
	got, err, at := parse.Parse(s)
	if err != wanted || at != where || !reflect.DeepEqual(got, api.Source{}) {
		t.Errorf("Parse(%.200q): %+v, %v, %d, want nothing, %v, %d", s, got, err, at, wanted, where)
	}
}

func TestExamples(t *testing.T) {
	reads(t, "co f() { return 1; }", api.Source{Fns: []api.Fn{{Name: "f", Body: []api.Stmt{{K: api.StReturn, At: 9, Op: number(1)}}}}})
	errs(t, "co f() { x = ; }", api.ErrToken, 13)
}

// TestNothing: a text without an item is a source too.
func TestNothing(t *testing.T) {
	for _, s := range []string{"", " ", "\n\t ", "// struct S {}", "//\n//\n"} {
		reads(t, s, api.Source{})
	}
}

func TestItems(t *testing.T) {
	s := ty(api.TyStruct, "S")
	reads(t, "struct S {}", api.Source{Structs: []api.Struct{{Name: "S"}}})
	reads(t, " drop struct S { }", api.Source{Structs: []api.Struct{{Name: "S", Drop: true, At: 1}}})
	reads(t, "struct S{a:int}", api.Source{Structs: []api.Struct{{Name: "S", Fields: []api.Field{field("a", num())}}}})
	reads(t, "struct T { a: S, b : box int,c: S }", api.Source{Structs: []api.Struct{
		{Name: "T", Fields: []api.Field{field("a", s), field("b", ty(api.TyBox, "", num())), field("c", s)}},
	}})
	reads(t, "enum E {}", api.Source{Enums: []api.Enum{{Name: "E"}}})
	reads(t, "enum E { A }", api.Source{Enums: []api.Enum{{Name: "E", Variants: []api.Variant{{Name: "A"}}}}})
	reads(t, "\nenum E { A(int), B, C(S), A }", api.Source{Enums: []api.Enum{
		{Name: "E", At: 1, Variants: []api.Variant{{Name: "A", Ty: num()}, {Name: "B"}, {Name: "C", Ty: s}, {Name: "A"}}},
	}})
	reads(t, "co f() {}", api.Source{Fns: []api.Fn{{Name: "f"}}})
	reads(t, "co f(x: int) {}", api.Source{Fns: []api.Fn{{Name: "f", Params: []api.Field{field("x", num())}}}})
	reads(t, "co f(x: co f, y: S, x: int) {}", api.Source{Fns: []api.Fn{
		{Name: "f", Params: []api.Field{field("x", ty(api.TyCo, "f")), field("y", s), field("x", num())}},
	}})
}

// TestOrder: items of each kind stand in the order in which they stand in the text, each with where its first token begins.
func TestOrder(t *testing.T) {
	reads(t, "co f(){}enum E{}struct S{}drop struct S{}co f(){}// struct T {}\nenum F{} struct A{}", api.Source{
		Structs: []api.Struct{{Name: "S", At: 16}, {Name: "S", Drop: true, At: 26}, {Name: "A", At: 73}},
		Enums:   []api.Enum{{Name: "E", At: 8}, {Name: "F", At: 64}},
		Fns:     []api.Fn{{Name: "f", At: 0}, {Name: "f", At: 41}},
	})
}

func TestTypes(t *testing.T) {
	for s, wanted := range map[string]api.Ty{
		"int":                   num(),
		"S":                     ty(api.TyStruct, "S"),
		"Int":                   ty(api.TyStruct, "Int"),
		"co f":                  ty(api.TyCo, "f"),
		"box int":               ty(api.TyBox, "", num()),
		"&S":                    ty(api.TyRef, "", ty(api.TyStruct, "S")),
		"&mut int":              ty(api.TyMut, "", num()),
		"& mut int":             ty(api.TyMut, "", num()),
		"&// mut\nint":          ty(api.TyRef, "", num()),
		"&&int":                 ty(api.TyRef, "", ty(api.TyRef, "", num())),
		"&&mut&box box co mutt": ty(api.TyRef, "", ty(api.TyMut, "", ty(api.TyRef, "", ty(api.TyBox, "", ty(api.TyBox, "", ty(api.TyCo, "mutt")))))),
	} {
		reads(t, "struct S { a: "+s+" }", api.Source{Structs: []api.Struct{{Name: "S", Fields: []api.Field{field("a", wanted)}}}})
		reads(t, "enum E { A("+s+"), B }", api.Source{Enums: []api.Enum{{Name: "E", Variants: []api.Variant{{Name: "A", Ty: wanted}, {Name: "B"}}}}})
		reads(t, "co f(a: "+s+") {}", api.Source{Fns: []api.Fn{{Name: "f", Params: []api.Field{field("a", wanted)}}}})
		inRow(t, "let a: "+s+" = x;", api.Stmt{K: api.StLet, Name: "a", Ty: wanted, Rv: set(api.RvUse, at("x"))})
	}
}

// inRow fails, if a text is not read as these statements in a coroutine; they stand as many bytes further on as the coroutine's own text has ahead of them.
func inRow(t *testing.T, s string, wanted ...api.Stmt) {
	t.Helper()
	const ahead = "co f() {"
	move(wanted, len(ahead))
	reads(t, ahead+s+"}", api.Source{Fns: []api.Fn{{Name: "f", Body: wanted}}})
}

func move(body []api.Stmt, by int) {
	for i := range body {
		body[i].At += by
		move(body[i].Then, by)
		move(body[i].Else, by)
		for _, a := range body[i].Arms {
			move(a.Body, by)
		}
	}
}

// TestNames: which words are small, which are great, and that both may be as long as there are tokens of them.
func TestNames(t *testing.T) {
	long := strings.Repeat("n", api.MaxName)
	for _, x := range []string{"a", "z", "x_1", "aB", "lets", "integer", "mut_", "structs", long} {
		inRow(t, x+"."+x+" = "+x+";", api.Stmt{K: api.StSet, P: place(x, x), Rv: set(api.RvUse, at(x))})
		errs(t, "struct "+x+" {}", api.ErrToken, 7)
		errs(t, "enum E { "+x+" }", api.ErrToken, 9)
	}
	for _, x := range []string{"A", "Z", "X_1", "Ab", "AB", "Let", "Mut", "Int", "Struct", "N" + long[1:]} {
		reads(t, "struct "+x+" {}", api.Source{Structs: []api.Struct{{Name: x}}})
		errs(t, "co "+x+"() {}", api.ErrToken, 3)
		errs(t, "struct S { "+x+": int }", api.ErrToken, 11)
		errs(t, "co f() { x."+x+" = 1; }", api.ErrToken, 11)
	}
	for _, x := range strings.Fields("struct enum co let if else while match yield return print drop box unbox start await poll wait mut int") {
		errs(t, "struct "+x+" {}", api.ErrToken, 7)
		errs(t, "co "+x+"() {}", api.ErrToken, 3)
		errs(t, "struct S { "+x+": int }", api.ErrToken, 11)
		errs(t, "enum E { "+x+" }", api.ErrToken, 9)
		errs(t, "co f() { let "+x+": int = 1; }", api.ErrToken, 13)
		errs(t, "co f() { x."+x+" = 1; }", api.ErrToken, 11)
		errs(t, "co f() { x = -"+x+"; }", api.ErrToken, 14)
	}
}

// readsOnce fails, if a text is not read as this source; what is written of it may be too long to be read.
func readsOnce(t *testing.T, s string, wanted api.Source) {
	t.Helper()
	got, err, where := parse.Parse(s)
	if err != api.OK || where != 0 || !reflect.DeepEqual(plain(got), plain(wanted)) {
		t.Errorf("Parse(%.200q): %v, %d, or not what stands there", s, err, where)
	}
	if !tree.Valid(got) {
		t.Errorf("Parse(%.200q) is not valid", s)
	}
}
