package tree_test

import (
	"math"
	"strings"
	"testing"

	"cocoon/api"
	"cocoon/tree"
)

func ty(k api.TyKind, name string, l ...api.Ty) api.Ty {
	return api.Ty{K: k, Name: name, L: l}
}

func number(n int) api.Oper { return api.Oper{Num: true, N: n} }

// place is a name and steps: to fields, or, by *, to what it is the address of.
func place(name string, steps ...string) api.Place {
	p := api.Place{Name: name}
	for _, x := range steps {
		if x == "*" {
			x = ""
		}
		p.Path = append(p.Path, api.Step{Field: x})
	}
	return p
}

func at(name string, steps ...string) api.Oper {
	return api.Oper{P: place(name, steps...)}
}

func set(k api.RvKind, ops ...api.Oper) api.Rv {
	return api.Rv{K: k, Ops: ops}
}

func setOf(k api.RvKind, p api.Place) api.Rv {
	return api.Rv{K: k, P: p}
}

func named(k api.RvKind, name, variant string, ops ...api.Oper) api.Rv {
	return api.Rv{K: k, Name: name, Variant: variant, Ops: ops}
}

// text fails, if a call answers another text than the wanted one.
func text(t *testing.T, got, wanted string) {
	t.Helper()
	if got != wanted {
		t.Errorf("%.200q, want %.200q", got, wanted)
	}
}

func TestExamples(t *testing.T) {
	text(t, tree.Set(named(api.RvVariant, "E", "A")), "E::A")
	text(t, tree.Place(place("x", "*", "f")), "x.*.f")
}

func TestType(t *testing.T) {
	num, s := ty(api.TyInt, ""), ty(api.TyStruct, "S")
	for _, x := range []struct {
		t      api.Ty
		wanted string
	}{
		{num, "int"},
		{ty(api.TyInt, "n", s), "int"},
		{s, "S"},
		{ty(api.TyStruct, "S", num), "S"},
		{ty(api.TyStruct, ""), ""},
		{ty(api.TyEnum, "E"), "E"},
		{ty(api.TyEnum, "any thing"), "any thing"},
		{ty(api.TyBox, "", num), "box int"},
		{ty(api.TyBox, "n", s), "box S"},
		{ty(api.TyRef, "", num), "&int"},
		{ty(api.TyMut, "", s), "&mut S"},
		{ty(api.TyCo, "f"), "co f"},
		{ty(api.TyCo, "f", num), "co f"},
		{ty(api.TyCo, ""), "co "},
		{ty(api.TyRef, "", ty(api.TyMut, "", ty(api.TyBox, "", ty(api.TyCo, "g")))), "&&mut box co g"},
		{ty(api.TyBox, "", ty(api.TyBox, "", ty(api.TyRef, "", ty(api.TyRef, "", ty(api.TyEnum, "E"))))), "box box &&E"},
	} {
		text(t, tree.Type(x.t), x.wanted)
	}
}

// TestTypeUnknown: what has no text is one sign, and what is around it stays.
func TestTypeUnknown(t *testing.T) {
	num := ty(api.TyInt, "")
	for _, x := range []api.Ty{
		{}, ty(api.TyUnit, "U", num), ty(-1, "S"), ty(api.TyCo+1, "S"), ty(math.MinInt, ""), ty(math.MaxInt, "", num),
		ty(api.TyBox, ""), ty(api.TyRef, "S"), ty(api.TyMut, ""),
		ty(api.TyBox, "", num, num), ty(api.TyRef, "", num, num), ty(api.TyMut, "S", num, num, num),
	} {
		text(t, tree.Type(x), "?")
		text(t, tree.Type(ty(api.TyBox, "", x)), "box ?")
		text(t, tree.Type(ty(api.TyRef, "", ty(api.TyMut, "", x))), "&&mut ?")
	}
}

func TestPlace(t *testing.T) {
	text(t, tree.Place(place("x")), "x")
	text(t, tree.Place(place("x", "f")), "x.f")
	text(t, tree.Place(place("x", "*")), "x.*")
	text(t, tree.Place(place("x", "*", "*", "f", "g", "*")), "x.*.*.f.g.*")
	text(t, tree.Place(place("")), "")
	text(t, tree.Place(place("", "f", "*")), ".f.*")
	text(t, tree.Place(place("A b", "c d")), "A b.c d")
}

func TestOper(t *testing.T) {
	for n, wanted := range map[int]string{
		0: "0", 7: "7", -7: "-7", 10: "10", -100: "-100",
		math.MaxInt: "9223372036854775807", math.MinInt: "-9223372036854775808",
	} {
		text(t, tree.Oper(number(n)), wanted)
	}
	text(t, tree.Oper(at("x", "*", "f")), "x.*.f")
	text(t, tree.Oper(api.Oper{Num: true, N: 3, P: place("x")}), "3")
	text(t, tree.Oper(api.Oper{N: 3, P: place("x")}), "x")
	text(t, tree.Oper(api.Oper{}), "")
}

func TestSet(t *testing.T) {
	x, one, far := at("x"), number(1), place("x", "*", "f")
	for _, c := range []struct {
		v      api.Rv
		wanted string
	}{
		{set(api.RvUse, x), "x"},
		{set(api.RvUse, number(-1)), "-1"},
		{set(api.RvAdd, x, one), "x + 1"},
		{set(api.RvSub, x, number(-1)), "x - -1"},
		{set(api.RvMul, one, x), "1 * x"},
		{set(api.RvLess, x, at("y", "f")), "x < y.f"},
		{set(api.RvSame, x, x), "x == x"},
		{setOf(api.RvRef, far), "&x.*.f"},
		{setOf(api.RvMut, far), "&mut x.*.f"},
		{set(api.RvBox, one), "box 1"},
		{setOf(api.RvUnbox, place("x")), "unbox x"},
		{setOf(api.RvUnbox, far), "unbox x.*.f"},
		{named(api.RvMake, "S", ""), "S()"},
		{named(api.RvMake, "S", "", one), "S(1)"},
		{named(api.RvMake, "S", "", one, x, at("y", "*")), "S(1, x, y.*)"},
		{named(api.RvVariant, "E", "A", x), "E::A(x)"},
		{named(api.RvVariant, "E", "A", x, one), "E::A(x, 1)"},
		{named(api.RvVariant, "", ""), "::"},
		{named(api.RvStart, "f", ""), "start f()"},
		{named(api.RvStart, "f", "", x, one), "start f(x, 1)"},
		{setOf(api.RvAwait, place("x")), "await x"},
		{setOf(api.RvPoll, place("x")), "poll x"},
		{set(api.RvWait, x), "wait x"},
	} {
		text(t, tree.Set(c.v), c.wanted)
		c.v.Ops = append(c.v.Ops, number(5), number(6))
		switch c.v.K {
		case api.RvMake, api.RvVariant, api.RvStart: // each operand is told
		default:
			text(t, tree.Set(c.v), c.wanted)
		}
	}
}

// TestSetMissing: an operand that is not there, and a kind that is none.
func TestSetMissing(t *testing.T) {
	for k, wanted := range map[api.RvKind]string{
		api.RvUse: "?", api.RvBox: "box ?", api.RvWait: "wait ?",
		api.RvAdd: "? + ?", api.RvSub: "? - ?", api.RvMul: "? * ?", api.RvLess: "? < ?", api.RvSame: "? == ?",
		api.RvMake: "S()", api.RvVariant: "S::V", api.RvStart: "start S()",
		-1: "?", api.RvWait + 1: "?", math.MinInt: "?", math.MaxInt: "?",
	} {
		text(t, tree.Set(api.Rv{K: k, P: place("p"), Name: "S", Variant: "V"}), wanted)
	}
	for k, wanted := range map[api.RvKind]string{
		api.RvAdd: "8 + ?", api.RvSub: "8 - ?", api.RvMul: "8 * ?", api.RvLess: "8 < ?", api.RvSame: "8 == ?",
		-1: "?", api.RvWait + 1: "?",
	} {
		text(t, tree.Set(set(k, number(8))), wanted)
	}
	for k, wanted := range map[api.RvKind]string{
		api.RvRef: "&", api.RvMut: "&mut ", api.RvUnbox: "unbox ", api.RvAwait: "await ", api.RvPoll: "poll ",
	} {
		text(t, tree.Set(set(k, number(8))), wanted)
	}
}

// TestLong: types and places of so many levels and steps as the document names.
func TestLong(t *testing.T) {
	const most = 1 << 16
	x := ty(api.TyInt, "")
	for range most {
		x = ty(api.TyBox, "", x)
	}
	text(t, tree.Type(x), strings.Repeat("box ", most)+"int")
	p := api.Place{Name: "x", Path: make([]api.Step, most)}
	text(t, tree.Place(p), "x"+strings.Repeat(".*", most))
}
