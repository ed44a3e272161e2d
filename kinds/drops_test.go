package kinds_test

import (
	"testing"

	"cocoon/api"
	"cocoon/kinds"
)

// dropping are declarations of which those that drop have a D ahead of their name.
const dropping = `
drop struct D { a: int }
drop struct DNone {}
struct None {}
struct Plain { a: int, b: int }
struct DBox { a: int, b: box int }
struct DCo { a: co f, b: int }
struct Ref { a: &int, b: &mut D, c: &box int }
struct DField { a: Plain, b: D }
struct DDeep { a: DField }
struct DByEnum { a: DSome }
struct ByEnum { a: Some }
struct Unknown { a: Nowhere }
drop struct DRound { a: DRound }
struct Round { a: Round, b: Plain }
struct DRoundBox { a: DRoundBox, b: box int }
struct Turn { a: Back }
struct Back { a: Turn, b: Plain }
struct DTurn { a: DBack }
struct DBack { a: DTurn, b: DAgain }
struct DAgain { a: DBack, b: DSome }
struct DInto { a: Plain, b: DTurn }
enum Empty {}
enum Units { A, B }
enum Some { A, B(int), C(Plain) }
enum DSome { A, B(D) }
enum DBoxed { A(box DBoxed), B }
enum DStarted { A, B(co f) }
enum Refs { A(&D), B(&mut D) }
enum DOther { A(int), B(DSome) }
enum Loop { A(Loop), B(int) }
enum DLoop { A(DLoop), B(box int) }
co f(d: D) {}
`

func TestDrops(t *testing.T) {
	s := source(t, dropping)
	told := func(x api.Ty, wanted bool) {
		t.Helper()
		if got := kinds.Drops(s, x); got != wanted {
			t.Errorf("%+v: %v", x, got)
		}
	}
	for _, x := range s.Structs {
		told(ty(api.TyStruct, x.Name), x.Name[0] == 'D')
		told(ty(api.TyEnum, x.Name), false)
		told(ty(api.TyRef, "", ty(api.TyStruct, x.Name)), false)
		told(ty(api.TyMut, x.Name, ty(api.TyStruct, x.Name)), false)
		told(ty(api.TyBox, "", ty(api.TyStruct, x.Name)), true)
		told(ty(api.TyInt, x.Name), false)
		told(ty(api.TyUnit, x.Name), false)
	}
	for _, x := range s.Enums {
		told(ty(api.TyStruct, x.Name), x.Name[0] == 'D')
		told(ty(api.TyEnum, x.Name), x.Name[0] == 'D')
	}
	for _, x := range []api.Ty{num(), ty(api.TyStruct, "D0"), ty(api.TyEnum, "D0"), ty(api.TyStruct, ""), ty(api.TyRef, ""), ty(api.TyMut, ""),
		ty(-1, "D"), ty(8, "D"), ty(api.TyInt, "", ty(api.TyBox, "")), ty(api.TyStruct, "Plain", ty(api.TyBox, ""))} {
		told(x, false)
	}
	for _, x := range []api.Ty{ty(api.TyBox, ""), ty(api.TyBox, "N", num(), num()), ty(api.TyCo, "f"), ty(api.TyCo, "nowhere"), ty(api.TyCo, "")} {
		told(x, true)
	}
}

// TestDropsFirst: the first one of a name counts, and a struct rather than an enum.
func TestDropsFirst(t *testing.T) {
	s := source(t, `
drop struct A {} struct A {} enum A {}
struct B {} drop struct B {} enum B { X(box int) }
enum C { X } enum C { X(box int) }
enum D { X(box int) } enum D { X }
struct InA { a: A } struct InB { a: B } struct InC { a: C } struct InD { a: D }
`)
	s.Structs = append(s.Structs, api.Struct{Name: "F"})
	s.Enums = append(s.Enums, api.Enum{Name: "InEnum", Variants: []api.Variant{{Name: "X", Ty: ty(api.TyEnum, "B")}}},
		api.Enum{Name: "Unit", Variants: []api.Variant{{Name: "X", Ty: ty(api.TyUnit, "A")}, {Name: "Y", Ty: ty(api.TyInt, "A", ty(api.TyBox, ""))}}})
	for _, x := range []struct {
		t     api.Ty
		drops bool
	}{
		{ty(api.TyStruct, "A"), true},
		{ty(api.TyEnum, "A"), false},
		{ty(api.TyStruct, "B"), false},
		{ty(api.TyEnum, "B"), true},
		{ty(api.TyStruct, "C"), false},
		{ty(api.TyEnum, "C"), false},
		{ty(api.TyStruct, "D"), true},
		{ty(api.TyEnum, "D"), true},
		{ty(api.TyStruct, "InA"), true},
		{ty(api.TyStruct, "InB"), false},
		{ty(api.TyStruct, "InC"), false},
		{ty(api.TyStruct, "InD"), true},
		{ty(api.TyEnum, "InEnum"), true},
		{ty(api.TyEnum, "InD"), false},
		{ty(api.TyEnum, "Unit"), false},
		{ty(api.TyEnum, "F"), false},
	} {
		if got := kinds.Drops(s, x.t); got != x.drops {
			t.Errorf("%+v: %v", x.t, got)
		}
	}
}
