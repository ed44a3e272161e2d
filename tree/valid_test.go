package tree_test

import (
	"math"
	"reflect"
	"strings"
	"testing"

	"cocoon/api"
	"cocoon/tree"
)

// valid fails, if another thing is told of a source, or if it does not tell whether it could have been read.
func valid(t *testing.T, s api.Source, wanted bool) {
	t.Helper()
	if got := tree.Valid(s); got != wanted {
		t.Errorf("Valid is %v of %+v", got, s)
	}
	if got := readable(s); got != wanted {
		t.Errorf("its text is read as itself: %v, of %+v", got, s)
	}
}

// readable tells whether a source is what its text is read as.
func readable(s api.Source) bool {
	back, ok := read(tree.Text(s))
	return ok && tree.Same(s, back)
}

// let is a source with one statement that sets something.
func let(v api.Rv) api.Source {
	return inRow(api.Stmt{K: api.StLet, Name: "a", Ty: ty(api.TyInt, ""), Rv: v})
}

// of is a source with a struct's field of a type.
func of(x api.Ty) api.Source {
	return api.Source{Structs: []api.Struct{{Name: "S", Fields: []api.Field{field("a", x)}}}}
}

// prime is a source that prints an operand.
func prime(o api.Oper) api.Source {
	return inRow(api.Stmt{K: api.StPrint, Op: o})
}

func matched(p api.Place, arms ...api.Arm) api.Source {
	return inRow(api.Stmt{K: api.StMatch, P: p, Arms: arms})
}

func TestValidEmpty(t *testing.T) {
	valid(t, api.Source{}, true)
	valid(t, api.Source{Structs: []api.Struct{}, Enums: []api.Enum{}, Fns: []api.Fn{}}, true)
	valid(t, api.Source{Structs: []api.Struct{{Name: "S"}}, Enums: []api.Enum{{Name: "S"}}, Fns: []api.Fn{{Name: "f"}, {Name: "f"}}}, true)
	valid(t, api.Source{Structs: []api.Struct{{}}}, false)
	valid(t, api.Source{Enums: []api.Enum{{}}}, false)
	valid(t, api.Source{Fns: []api.Fn{{}}}, false)
	valid(t, inRow(api.Stmt{}), false)
}

// places are sources with a name in all places where a small one stands, and in all where a great one does.
func places(name string) (small, great []api.Source) {
	s, p := ty(api.TyStruct, name), place(name)
	small = []api.Source{
		{Structs: []api.Struct{{Name: "S", Fields: []api.Field{field(name, ty(api.TyInt, ""))}}}},
		{Fns: []api.Fn{{Name: "f", Params: []api.Field{field(name, ty(api.TyInt, ""))}}}},
		{Fns: []api.Fn{{Name: name}}},
		of(ty(api.TyCo, name)),
		inRow(api.Stmt{K: api.StLet, Name: name, Ty: ty(api.TyInt, ""), Rv: set(api.RvUse, number(1))}),
		inRow(api.Stmt{K: api.StSet, P: p, Rv: set(api.RvUse, number(1))}),
		inRow(api.Stmt{K: api.StDrop, P: p}),
		matched(p),
		prime(at(name)),
		let(set(api.RvAdd, number(1), at(name))),
		let(setOf(api.RvRef, p)),
		let(setOf(api.RvMut, p)),
		let(setOf(api.RvUnbox, p)),
		let(setOf(api.RvAwait, p)),
		let(setOf(api.RvPoll, p)),
		let(named(api.RvStart, name, "")),
		let(named(api.RvMake, "S", "", number(1), at(name))),
	}
	great = []api.Source{
		{Structs: []api.Struct{{Name: name}}},
		{Enums: []api.Enum{{Name: name}}},
		{Enums: []api.Enum{{Name: "E", Variants: []api.Variant{{Name: name}}}}},
		of(s),
		of(ty(api.TyBox, "", s)),
		{Enums: []api.Enum{{Name: "E", Variants: []api.Variant{{Name: "A", Ty: s}}}}},
		let(named(api.RvMake, name, "")),
		let(named(api.RvVariant, name, "A")),
		let(named(api.RvVariant, "E", name)),
		matched(place("x"), api.Arm{Variant: name}),
		inRow(api.Stmt{K: api.StLet, Name: "a", Ty: s, Rv: set(api.RvUse, number(1))}),
		{Fns: []api.Fn{{Name: "f", Params: []api.Field{field("x", s)}}}},
	}
	return small, great
}

// names fails, if a name may stand, or not, in another place than it should.
func names(t *testing.T, name string, inSmall, inGreat bool) {
	t.Helper()
	small, great := places(name)
	for _, s := range small {
		valid(t, s, inSmall)
	}
	for _, s := range great {
		valid(t, s, inGreat)
	}
	// These two may be missing.
	missing := name == ""
	valid(t, prime(api.Oper{P: api.Place{Name: "x", Path: []api.Step{{Field: "f"}, {Field: name}}}}), inSmall || missing)
	valid(t, matched(place("x"), api.Arm{Variant: "A", Bind: name}), inSmall || missing)
}

func TestValidNames(t *testing.T) {
	for _, x := range []string{"a", "z", "lets", "le", "a_", "aB9_", "q23456789012345678901234", "ints", "source"} {
		names(t, x, true, false)
	}
	for _, x := range []string{"A", "Z", "Let", "INT", "A_", "Ab9_", "Q23456789012345678901234", "Box"} {
		names(t, x, false, true)
	}
	for _, x := range []string{
		"", "_", "_a", "_A", "1", "1a", "-", "a b", "A B", " a", "A ", "a.b", "A::B", "a\n", "A//", "a: int", "?", "*", "&A", "box A", "a\x00", "\xff",
		"\u00e4", "\u00c4", "q234567890123456789012345", "Q234567890123456789012345", strings.Repeat("q", 70000),
	} {
		names(t, x, false, false)
	}
	for _, x := range strings.Fields("struct enum co let if else while match yield return print drop box unbox start await poll wait mut int") {
		names(t, x, false, false)
	}
}

func TestValidTypes(t *testing.T) {
	num, s := ty(api.TyInt, ""), ty(api.TyStruct, "S")
	good := []api.Ty{num, s, ty(api.TyCo, "f"), ty(api.TyBox, "", num), ty(api.TyRef, "", s), ty(api.TyMut, "", ty(api.TyRef, "", ty(api.TyBox, "", s)))}
	bad := []api.Ty{
		ty(api.TyUnit, "U"), ty(api.TyUnit, "", num), ty(api.TyEnum, "E"), ty(api.TyEnum, ""), ty(-1, ""), ty(api.TyCo+1, "f"), ty(math.MinInt, ""), ty(math.MaxInt, ""),
		ty(api.TyInt, "S"), ty(api.TyInt, "", num), ty(api.TyStruct, "S", num), ty(api.TyCo, "f", num), ty(api.TyCo, ""), ty(api.TyStruct, ""),
		ty(api.TyBox, ""), ty(api.TyRef, ""), ty(api.TyMut, ""), ty(api.TyBox, "S", num), ty(api.TyRef, "S", num), ty(api.TyMut, "a", num),
		ty(api.TyBox, "", num, num), ty(api.TyRef, "", num, num), ty(api.TyMut, "", num, num), ty(api.TyBox, "", api.Ty{}), ty(api.TyRef, "", ty(api.TyEnum, "E")),
	}
	try := func(x api.Ty, wanted bool) {
		t.Helper()
		valid(t, of(x), wanted)
		valid(t, of(ty(api.TyMut, "", x)), wanted)
		valid(t, inRow(api.Stmt{K: api.StLet, Name: "a", Ty: x, Rv: set(api.RvUse, number(1))}), wanted)
		valid(t, api.Source{Fns: []api.Fn{{Name: "f", Params: []api.Field{field("x", x)}}}}, wanted)
		valid(t, api.Source{Fns: []api.Fn{{Name: "f", Params: []api.Field{field("x", num), field("y", x)}}}}, wanted)
		valid(t, api.Source{Enums: []api.Enum{{Name: "E", Variants: []api.Variant{{Name: "A", Ty: x}}}}}, wanted || reflect.ValueOf(x).IsZero())
	}
	for _, x := range good {
		try(x, true)
	}
	for _, x := range bad {
		try(x, false)
	}
	try(api.Ty{}, false) // but as a variant's
	try(api.Ty{K: api.TyInt, L: []api.Ty{}}, true)
	valid(t, api.Source{Enums: []api.Enum{{Name: "E", Variants: []api.Variant{{Name: "A", Ty: api.Ty{L: []api.Ty{}}}}}}}, true)
}

func TestValidNumbers(t *testing.T) {
	for _, n := range []int{0, 1, -1, math.MaxInt, -math.MaxInt, math.MinInt + 1, math.MinInt} {
		wanted := n != math.MinInt
		valid(t, prime(number(n)), wanted)
		valid(t, let(set(api.RvLess, at("x"), number(n))), wanted)
		valid(t, let(named(api.RvStart, "f", "", number(n))), wanted)
	}
	for _, x := range []api.Oper{
		{}, {N: 1}, {N: 1, P: place("x")}, {N: math.MinInt, P: place("x")},
		{Num: true, P: place("x")}, {Num: true, N: 1, P: place("", "*")}, {Num: true, N: 1, P: place("x", "f")},
	} {
		valid(t, prime(x), false)
		valid(t, let(set(api.RvBox, x)), false)
	}
	valid(t, prime(api.Oper{Num: true, P: api.Place{Path: []api.Step{}}}), true)
}

// TestValidSteps: what is named alone has no steps, other places may have any.
func TestValidSteps(t *testing.T) {
	for _, p := range []api.Place{place("x", "f"), place("x", "*"), place("x", "*", "f", "*", "*")} {
		valid(t, inRow(api.Stmt{K: api.StSet, P: p, Rv: set(api.RvUse, api.Oper{P: p})}), true)
		for _, k := range []api.RvKind{api.RvRef, api.RvMut} {
			valid(t, let(setOf(k, p)), true)
		}
		for _, k := range []api.RvKind{api.RvUnbox, api.RvAwait, api.RvPoll} {
			valid(t, let(setOf(k, p)), false)
			valid(t, let(setOf(k, place("x"))), true)
		}
		valid(t, inRow(api.Stmt{K: api.StDrop, P: p}), false)
		valid(t, matched(p), false)
	}
	valid(t, prime(at("x", "F")), false)
	valid(t, prime(at("", "f")), false)
}

// operands are how many ones each kind of what is set may have, from and to.
func operands() map[api.RvKind][2]int {
	return map[api.RvKind][2]int{
		api.RvUse: {1, 1}, api.RvBox: {1, 1}, api.RvWait: {1, 1},
		api.RvAdd: {2, 2}, api.RvSub: {2, 2}, api.RvMul: {2, 2}, api.RvLess: {2, 2}, api.RvSame: {2, 2},
		api.RvRef: {}, api.RvMut: {}, api.RvUnbox: {}, api.RvAwait: {}, api.RvPoll: {},
		api.RvMake: {0, 9}, api.RvVariant: {0, 1}, api.RvStart: {0, 9},
		-1: {9, 0}, api.RvWait + 1: {9, 0}, math.MinInt: {9, 0}, math.MaxInt: {9, 0},
	}
}

// TestValidSets: each kind, with each count of operands, and each choice of what stands beside them.
func TestValidSets(t *testing.T) {
	for k, may := range operands() {
		ofPlace := k == api.RvRef || k == api.RvMut || k == api.RvUnbox || k == api.RvAwait || k == api.RvPoll
		for n := range 5 {
			for _, name := range []string{"", "S", "s"} {
				for _, variant := range []string{"", "V", "v"} {
					for _, p := range []string{"", "x"} {
						v := api.Rv{K: k, Ops: make([]api.Oper, n), P: place(p), Name: name, Variant: variant}
						for i := range v.Ops {
							v.Ops[i] = number(i)
						}
						wanted := n >= may[0] && n <= may[1] && (p == "x") == ofPlace
						switch k {
						case api.RvMake:
							wanted = wanted && name == "S" && variant == ""
						case api.RvVariant:
							wanted = wanted && name == "S" && variant == "V"
						case api.RvStart:
							wanted = wanted && name == "s" && variant == ""
						default:
							wanted = wanted && name == "" && variant == ""
						}
						valid(t, let(v), wanted)
					}
				}
			}
		}
	}
}

// examples are a statement of each kind, with all that it may have.
func examples() []api.Stmt {
	num, row := ty(api.TyInt, ""), []api.Stmt{prints(1)}
	return []api.Stmt{
		{K: api.StLet, Name: "a", Ty: num, Rv: set(api.RvAdd, number(1), at("x"))},
		{K: api.StSet, P: place("x", "*"), Rv: setOf(api.RvMut, place("y", "f"))},
		{K: api.StIf, Op: at("x"), Then: row, Else: row},
		{K: api.StWhile, Op: number(1), Then: row},
		{K: api.StMatch, P: place("x"), Arms: []api.Arm{{Variant: "A", Bind: "a", Body: row}, {Variant: "B"}}},
		{K: api.StYield, Op: number(-3)},
		{K: api.StReturn, Op: at("x", "f")},
		{K: api.StPrint, Op: number(0)},
		{K: api.StDrop, P: place("x")},
	}
}

// TestValidStatements: each kind, and each with something more, or with something less.
func TestValidStatements(t *testing.T) {
	missing := map[string]bool{"Then": true, "Else": true, "Arms": true} // these may be
	for i, s := range examples() {
		if int(s.K) != i {
			t.Fatalf("example %d is of kind %d", i, s.K)
		}
		valid(t, inRow(s), true)
		valid(t, inRow(prints(1), s, prints(2)), true)
		v := reflect.ValueOf(&s).Elem()
		for j := range v.NumField() {
			name, f := v.Type().Field(j).Name, v.Field(j)
			if name == "K" || name == "At" {
				continue
			}
			was := copied(f)
			if f.IsZero() {
				fill(f, 2)
				valid(t, inRow(s), false)
			} else {
				f.SetZero()
				valid(t, inRow(s), missing[name])
			}
			f.Set(was)
		}
	}
}

// TestValidKinds: a statement of a kind that is none, whatever it has.
func TestValidKinds(t *testing.T) {
	for _, s := range examples() {
		for _, k := range []api.StKind{-1, api.StDrop + 1, math.MinInt, math.MaxInt} {
			s.K = k
			valid(t, inRow(s), false)
			valid(t, inRow(api.Stmt{K: k}), false)
		}
	}
}

// TestValidWhere: where something stands may be any number.
func TestValidWhere(t *testing.T) {
	s := inRow(examples()...)
	s.Structs, s.Enums = []api.Struct{{Name: "S"}}, []api.Enum{{Name: "E"}}
	for _, n := range []int{-1, 7, math.MinInt, math.MaxInt} {
		for _, x := range leavesOf(&s) {
			if x.at {
				x.v.SetInt(int64(n))
			}
		}
		valid(t, s, true)
	}
}

// TestValidInner: what can't be is found in each row, and behind other things.
func TestValidInner(t *testing.T) {
	for _, wrong := range []api.Stmt{{}, {K: -1}, {K: api.StDrop}, {K: api.StPrint, Op: number(math.MinInt)}} {
		row := []api.Stmt{prints(1), wrong}
		for _, s := range []api.Stmt{
			{K: api.StIf, Op: at("x"), Then: row},
			{K: api.StIf, Op: at("x"), Else: row},
			{K: api.StWhile, Op: at("x"), Then: row},
			{K: api.StMatch, P: place("x"), Arms: []api.Arm{{Variant: "A"}, {Variant: "B", Body: row}}},
		} {
			valid(t, inRow(s), false)
			valid(t, inRow(prints(1), api.Stmt{K: api.StWhile, Op: at("x"), Then: []api.Stmt{prints(2), s}}), false)
		}
		second := inRow()
		second.Fns = append(second.Fns, api.Fn{Name: "g", Body: row})
		valid(t, second, false)
	}
}

// around are the ways in which a row stands in a statement.
func around(row []api.Stmt) []api.Stmt {
	return []api.Stmt{
		{K: api.StWhile, Op: number(0), Then: row},
		{K: api.StIf, Op: number(0), Then: row},
		{K: api.StIf, Op: number(0), Else: row},
		{K: api.StMatch, P: place("x"), Arms: []api.Arm{{Variant: "A", Body: row}}},
	}
}

// within is a source whose innermost row is so deep.
func within(deep int, row ...api.Stmt) api.Source {
	for i := range deep - 1 {
		row = []api.Stmt{around(row)[i%4]}
	}
	return inRow(row...)
}

// TestValidDeep: a block may be 60 deep, and so may a type.
func TestValidDeep(t *testing.T) {
	for _, deep := range []int{1, 2, 59, 60, 61, 62, 1000} {
		valid(t, within(deep), deep <= 60)
		valid(t, within(deep, prints(1)), deep <= 60)
		for _, s := range around(nil) {
			valid(t, within(deep, s), deep < 60)
		}
		valid(t, within(deep, api.Stmt{K: api.StMatch, P: place("x")}), deep <= 60) // without an arm it has no block
	}
	for _, deep := range []int{0, 1, 59, 60, 61, 62, 1000} {
		for _, x := range []api.Ty{ty(api.TyInt, ""), ty(api.TyStruct, "S"), ty(api.TyCo, "f")} {
			for i := range deep {
				x = ty(api.TyBox+api.TyKind(i%3), "", x)
			}
			valid(t, of(x), deep <= 60)
			valid(t, api.Source{Enums: []api.Enum{{Name: "E", Variants: []api.Variant{{Name: "A", Ty: x}}}}}, deep <= 60)
			s := inRow(api.Stmt{K: api.StLet, Name: "a", Ty: x, Rv: set(api.RvUse, number(1))})
			valid(t, s, deep <= 60)
			valid(t, within(60, s.Fns[0].Body...), deep <= 60) // blocks and types are counted apart
		}
	}
}

// TestValidEndless: what stands in itself is too deep.
func TestValidEndless(t *testing.T) {
	l := []api.Ty{{K: api.TyBox}}
	l[0].L = l
	if tree.Valid(of(l[0])) {
		t.Error("a type in itself is valid")
	}
	row := []api.Stmt{{K: api.StIf, Op: number(0)}}
	row[0].Then, row[0].Else = row, row
	if tree.Valid(inRow(row...)) {
		t.Error("a row in itself is valid")
	}
}
