package check_test

import (
	"testing"

	"cocoon/api"
	"cocoon/check"
)

// makes fails, if what is set is not of a text's type.
func makes(t *testing.T, s api.Source, l []api.Local, v api.Rv, want string) {
	t.Helper()
	if got, err := check.Set(s, l, v); err != api.OK || !alike(got, typed(t, s, want)) {
		t.Errorf("%+v is %+v, %v, want %s", v, got, err, want)
	}
}

// fails fails, if what is set does not have this error.
func fails(t *testing.T, s api.Source, l []api.Local, v api.Rv, want api.Errno) {
	t.Helper()
	if got, err := check.Set(s, l, v); err != want || !alike(got, api.Ty{}) {
		t.Errorf("%+v is %+v, %v, want %v", v, got, err, want)
	}
}

func TestSet(t *testing.T) {
	s := source(t, decls)
	l := names(t, s, known)
	for text, want := range map[string]string{
		"0": "int", "-5": "int", "x": "int", "p": "P", "p.x": "int", "b": "box int", "b.*": "int", "r": "&int", "m": "&mut int", "c": "co h", "e": "E", "rr.*": "&int", "mr.*": "&P",
		"x + 1": "int", "1 - x": "int", "p.x * b.*": "int", "r.* < m.*": "int", "rs.*.n == -1": "int",
		// references
		"&x": "&int", "&p": "&P", "&p.x": "&int", "&e": "&E", "&c": "& co h", "&none": "&None", "&b": "& box int", "&b.*": "&int", "&s.b": "& box S", "&bs.*.b.*.e": "&E", "&r.*": "&int", "&rs.*.b": "& box S", "&rm.*.*": "&P", "&m.*": "&int", "&mp.*.x": "&int", "&mr.*.*": "&P",
		"&mut x": "&mut int", "&mut p": "&mut P", "&mut p.x": "&mut int", "&mut e": "&mut E", "&mut c": "&mut co h", "&mut b": "&mut box int", "&mut b.*": "&mut int", "&mut s.b": "&mut box S", "&mut m.*": "&mut int", "&mut mp.*.x": "&mut int", "&mut mb.*.*": "&mut int", "&mut ms.*.b.*.e": "&mut E", "&mut s.be.*": "&mut E",
		// boxes
		"box 1": "box int", "box x": "box int", "box p": "box P", "box e": "box E", "box c": "box co h", "box b": "box box int", "box bb": "box box box P", "box r.*": "box int", "box p.x": "box int", "box none": "box None",
		"unbox b": "int", "unbox bs": "S", "unbox bb": "box P", "unbox br": "&int", "unbox bm": "&mut int",
		// by a name
		"P(1, x)": "P", "P(p.x, r.*)": "P", "D(-1)": "D", "None()": "None", "S(p, d, e, bs, s0, 1, b, be)": "S",
		"E::A": "E", "E::B(1)": "E", "E::B(p.x)": "E", "E::C(p)": "E", "E::X(be)": "E", "E::Y(f)": "E", "F::G": "F",
		"start g()": "co g", "start h(1, b, e)": "co h", "start h(r.*, b, e)": "co h",
		// coroutines, and events
		"await c": "int", "poll c": "int", "await s0": "int", "poll s0": "int", "wait 0": "int", "wait x": "int", "wait p.y": "int", "wait m.*": "int",
	} {
		more := append(names(t, s, "s0: co g, be: box E, f: F"), l...)
		makes(t, s, more, set(t, text), want)
	}
}

func TestSetWrong(t *testing.T) {
	s := source(t, decls)
	l := append(names(t, s, "s0: co g, be: box E, f: F"), names(t, s, known)...)
	for want, texts := range map[api.Errno][]string{
		api.ErrUnknown: {
			"q", "q.x", "q + 1", "1 + q", "q == q", "&q", "&mut q", "&q.x", "&mut q.*", "box q", "unbox q", "await q", "poll q", "wait q",
			"P(q, 1)", "P(1, q)", "E::B(q)", "E::C(q.x)", "start h(q, b, e)", "start h(1, b, q)",
			// items
			"Nowhere()", "E()", "E(1)", "Nowhere::A", "P::A", "P::B(1)", "start nowhere()", "start f()", "start x(1)",
		},
		api.ErrPlace: {
			"x.*", "p.z", "p.x + x.y", "p.z < 1", "&x.*", "&p.z", "&mut e.a", "box x.*", "wait p.z", "P(p.z, 1)", "E::B(x.*)", "start h(1, b, x.*)",
			"unbox s.b", "unbox bs.*", "unbox p.x", "await s.c", "await cr.*", "poll s.c", "poll p.x",
			// what is reached through a shared reference is not lent alone
			"&mut r.*", "&mut rp.*", "&mut rp.*.x", "&mut rs.*.b", "&mut rs.*.b.*.p", "&mut rb.*.*", "&mut rm.*.*", "&mut rm.*.*.x", "&mut mr.*.*", "&mut br.*.*", "&mut cr.*", "&mut er.*",
		},
		api.ErrMove: {
			"s.p", "bs.*", "rp.*", "bb.*", "s.b + 1", "1 * s.p", "s.c == s.c", "box s.b", "box bb.*", "box rp.*", "wait s.e", "S(s.p, d, e, bs, s0, 1, b, be)", "E::C(s.p)", "E::X(s.be)", "start h(1, s.i, e)",
		},
		api.ErrType: {
			"p + 1", "1 + p", "b - b", "r * 1", "1 < m", "e == e", "none == none", "c + c", "r.* + r", "rr.* == rr.*",
			"unbox x", "unbox p", "unbox e", "unbox c", "unbox r", "unbox mb", "unbox rb",
			"await x", "await p", "await e", "await b", "await r", "await cr", "poll x", "poll d", "poll cr", "poll m",
			"wait p", "wait b", "wait r", "wait m", "wait e", "wait c",
			"P(b, 1)", "P(1, r)", "P(p, p)", "D(d)", "S(d, d, e, bs, s0, 1, b, be)", "S(p, d, e, b, s0, 1, b, be)", "S(p, d, e, s, s0, 1, b, be)", "S(p, d, e, bs, c, 1, b, be)", "S(p, d, p, bs, s0, 1, b, be)", "S(p, d, e, bs, s0, 1, b, b)", "S(p, d, f, bs, s0, 1, b, be)", "S(p, d, e, bs, s0, 1, bb, be)",
			"E::B(p)", "E::C(1)", "E::C(d)", "E::X(e)", "E::X(b)", "E::Y(e)", "E::B(r)",
			"start h(1, 1, e)", "start h(b, b, e)", "start h(1, b, f)", "start h(1, b, p)", "start h(1, be, e)",
		},
		api.ErrHold: {
			"&r", "&m", "&rr", "&br", "&bm", "&rr.*", "&mr.*", "&rm.*", "&mut r", "&mut m", "&mut rr", "&mut br", "&mut bm", "&mut bm.*", "&mut mr.*", "box r", "box m", "box rr", "box br", "box bm", "box rr.*", "box mr.*",
		},
		api.ErrCount: {
			"P()", "P(1)", "P(1, 2, 3)", "D()", "D(1, 2)", "None(1)", "S(p)", "E::A(1)", "E::B", "E::C", "E::X", "F::G(1)", "start g(1)", "start h()", "start h(1, b)", "start h(1, b, e, 1)",
		},
		api.ErrVariant: {
			"E::G", "E::Nowhere", "E::E", "E::G(1)", "F::A", "F::B(1)",
		},
	} {
		for _, text := range texts {
			fails(t, s, l, set(t, text), want)
		}
	}
}

// TestSetOrder: which of two errors is told.
func TestSetOrder(t *testing.T) {
	s := source(t, decls)
	l := names(t, s, known)
	for text, want := range map[string]api.Errno{
		// operands come ahead of their types
		"p + q": api.ErrUnknown, "q + p": api.ErrUnknown, "p - p.z": api.ErrPlace, "b * s.p": api.ErrMove, "r < x.*": api.ErrPlace,
		"q + x.*": api.ErrUnknown, "x.* + q": api.ErrPlace, "s.p == q": api.ErrMove, "q == s.p": api.ErrUnknown,
		// an operand's error ahead of what it holds
		"box rm.*": api.ErrMove, "box q": api.ErrUnknown, "box br.*.*.x": api.ErrPlace,
		// a place, what it holds, how it is reached
		"&mut rr.*": api.ErrHold, "&mut rm.*": api.ErrHold, "&mut rr.*.*": api.ErrPlace, "&mut rm.*.z": api.ErrPlace, "&rr.*.*.*": api.ErrPlace,
		// steps ahead of the name
		"unbox q.x": api.ErrPlace, "unbox q.*": api.ErrPlace, "unbox x.x": api.ErrPlace, "await q.x": api.ErrPlace, "await x.*": api.ErrPlace, "poll q.*": api.ErrPlace, "poll p.x": api.ErrPlace,
		// a name ahead of operands
		"Nowhere(q)": api.ErrUnknown, "Nowhere(x.*)": api.ErrUnknown, "E(s.p)": api.ErrUnknown, "Nowhere::A(s.p)": api.ErrUnknown, "start nowhere(x.*)": api.ErrUnknown, "start nowhere(s.p)": api.ErrUnknown,
		"E::Nowhere(q)": api.ErrVariant, "E::Nowhere(s.p)": api.ErrVariant, "E::Nowhere": api.ErrVariant, "Nowhere::Nowhere": api.ErrUnknown,
		// how many there are, ahead of operands
		"P(q)": api.ErrCount, "P(b)": api.ErrCount, "P(1, 2, q)": api.ErrCount, "P(s.p, s.p, s.p)": api.ErrCount, "None(q)": api.ErrCount, "E::A(q)": api.ErrCount, "E::A(s.p)": api.ErrCount, "start g(q)": api.ErrCount, "start h(q)": api.ErrCount, "start h(x.*, q)": api.ErrCount,
		// all of an operand ahead of the next one
		"P(b, q)": api.ErrType, "P(q, b)": api.ErrUnknown, "P(b, x.*)": api.ErrType, "P(s.p, q)": api.ErrMove, "P(q, s.p)": api.ErrUnknown, "P(1, s.d)": api.ErrMove,
		"start h(b, q, e)": api.ErrType, "start h(1, q, p)": api.ErrUnknown, "start h(1, x, q)": api.ErrType, "start h(1, s.i, q)": api.ErrMove, "start h(1, b, q)": api.ErrUnknown,
		"E::B(s.p)": api.ErrMove, "E::B(p.z)": api.ErrPlace, "E::X(q)": api.ErrUnknown,
		// an operand ahead of its type
		"wait s.p": api.ErrMove, "wait q": api.ErrUnknown, "wait p.z": api.ErrPlace, "P(s.d, 1)": api.ErrMove, "start h(s.d, b, e)": api.ErrMove,
	} {
		fails(t, s, l, set(t, text), want)
	}
}

// TestSetCount: operands that no text has so many of, or so few.
func TestSetCount(t *testing.T) {
	s := source(t, decls)
	l := names(t, s, known)
	all := []api.Oper{oper(t, "1"), oper(t, "x"), oper(t, "p.x")}
	wrong := []api.Oper{oper(t, "q"), oper(t, "s.p"), oper(t, "x.*")}
	for k := api.RvUse; k <= api.RvWait; k++ {
		right := 1
		switch k {
		case api.RvAdd, api.RvSub, api.RvMul, api.RvLess, api.RvSame:
			right = 2
		case api.RvUse, api.RvBox, api.RvWait:
		default:
			continue
		}
		for n := range len(all) + 1 {
			if n == right {
				continue
			}
			fails(t, s, l, api.Rv{K: k, Ops: all[:n]}, api.ErrCount)
			fails(t, s, l, api.Rv{K: k, Ops: wrong[:n]}, api.ErrCount)
			fails(t, s, l, api.Rv{K: k, Ops: wrong[:n], P: place(t, "q"), Name: "Nowhere"}, api.ErrCount)
		}
		want := "int"
		if k == api.RvBox {
			want = "box int"
		}
		makes(t, s, l, api.Rv{K: k, Ops: all[:right]}, want)
		makes(t, s, l, api.Rv{K: k, Ops: all[1 : 1+right], P: place(t, "q"), Name: "Nowhere", Variant: "Nowhere"}, want)
		fails(t, s, l, api.Rv{K: k, Ops: wrong[:right]}, api.ErrUnknown)
		fails(t, s, l, api.Rv{K: k, Ops: wrong[1 : 1+right]}, api.ErrMove)
	}
	two := []api.Oper{oper(t, "1"), oper(t, "q")}
	fails(t, s, l, api.Rv{K: api.RvVariant, Name: "E", Variant: "B", Ops: two}, api.ErrCount)
	fails(t, s, l, api.Rv{K: api.RvVariant, Name: "E", Variant: "A", Ops: two}, api.ErrCount)
	fails(t, s, l, api.Rv{K: api.RvVariant, Name: "Nowhere", Variant: "A", Ops: two}, api.ErrUnknown)
	fails(t, s, l, api.Rv{K: api.RvVariant, Name: "E", Variant: "Nowhere", Ops: two}, api.ErrVariant)
	// operands that are not looked at
	for text, want := range map[string]string{"&x": "&int", "&mut p.x": "&mut int", "unbox b": "int", "await c": "int", "poll c": "int"} {
		for n := range len(wrong) + 1 {
			v := set(t, text)
			v.Ops = wrong[:n]
			makes(t, s, l, v, want)
		}
	}
	for text, want := range map[string]api.Errno{"&r": api.ErrHold, "&mut r.*": api.ErrPlace, "unbox x": api.ErrType, "await b": api.ErrType, "poll p.x": api.ErrPlace} {
		v := set(t, text)
		v.Ops = wrong
		fails(t, s, l, v, want)
	}
}

// TestSetKinds: kinds that there are not.
func TestSetKinds(t *testing.T) {
	s := source(t, decls)
	l := names(t, s, known)
	for _, k := range []api.RvKind{-9, -1, 16, 17, 99} {
		fails(t, s, l, api.Rv{K: k}, api.ErrType)
		fails(t, s, l, api.Rv{K: k, Ops: []api.Oper{oper(t, "1")}}, api.ErrType)
		fails(t, s, l, api.Rv{K: k, Ops: []api.Oper{oper(t, "x"), oper(t, "p.x")}, P: place(t, "x"), Name: "P"}, api.ErrType)
		fails(t, s, l, api.Rv{K: k, P: place(t, "b"), Name: "E", Variant: "A"}, api.ErrType)
	}
	// what is in a box that has nothing is nothing
	empty := []api.Local{{Name: "x", Ty: ty(api.TyBox, "")}}
	if got, _ := check.Set(s, empty, set(t, "unbox x")); !alike(got, api.Ty{}) {
		t.Errorf("in an empty box is %+v", got)
	}
}

// TestSetFirst: of items of one name the first one is meant; and parts' types are resolved, at any depth.
func TestSetFirst(t *testing.T) {
	s := source(t, `
		struct T { a: int }
		struct T { a: int, b: int }
		enum K { A, B(T), Z(K) }
		enum K { C }
		struct B1 { k: K, bk: box box K, bt: box T }
		co a(x: K) {} co a() {}`)
	l := names(t, s, "t: T, k: K, bk: box box K, bt: box T")
	makes(t, s, l, set(t, "T(1)"), "T")
	fails(t, s, l, set(t, "T(1, 2)"), api.ErrCount)
	makes(t, s, l, set(t, "K::A"), "K")
	fails(t, s, l, set(t, "K::A(1)"), api.ErrCount)
	makes(t, s, l, set(t, "K::B(t)"), "K")
	makes(t, s, l, set(t, "K::Z(k)"), "K")
	fails(t, s, l, set(t, "K::C"), api.ErrVariant)
	makes(t, s, l, set(t, "B1(k, bk, bt)"), "B1")
	fails(t, s, l, set(t, "B1(k, bt, bt)"), api.ErrType)
	fails(t, s, l, set(t, "B1(k, bk, bk)"), api.ErrType)
	makes(t, s, l, set(t, "start a(k)"), "co a")
	fails(t, s, l, set(t, "start a()"), api.ErrCount)
	// an enum is told as one, at any depth
	for text, want := range map[string]api.Ty{
		"K::A":   ty(api.TyEnum, "K"),
		"k":      ty(api.TyEnum, "K"),
		"&k":     ty(api.TyRef, "", ty(api.TyEnum, "K")),
		"box bk": ty(api.TyBox, "", ty(api.TyBox, "", ty(api.TyBox, "", ty(api.TyEnum, "K")))),
		"T(2)":   ty(api.TyStruct, "T"),
	} {
		if got, err := check.Set(s, l, set(t, text)); err != api.OK || !alike(got, want) {
			t.Errorf("%s is %+v, %v", text, got, err)
		}
	}
}

// TestSetOther: types of one name, or of one kind, are others.
func TestSetOther(t *testing.T) {
	s := source(t, "struct T {} struct U {} enum V { X } enum W { X } co t() {} co u() {} struct All { t: T, v: V, c: co t, bt: box T, bbt: box box T, i: int }")
	right := []string{"t", "v", "c", "bt", "bbt", "1"}
	l := names(t, s, "t: T, u: U, v: V, w: W, c: co t, d: co u, bt: box T, bu: box U, bv: box V, bbt: box box T, bbu: box box U, rt: &T, mt: &mut T, i: int")
	all := func(place int, name string) api.Rv {
		v := api.Rv{K: api.RvMake, Name: "All"}
		for i, text := range right {
			if i == place {
				text = name
			}
			v.Ops = append(v.Ops, oper(t, text))
		}
		return v
	}
	for i, fits := range right {
		makes(t, s, l, all(i, fits), "All")
		for _, x := range l {
			if x.Name != fits && !(fits == "1" && x.Name == "i") {
				fails(t, s, l, all(i, x.Name), api.ErrType)
			}
		}
	}
	// a coroutine may be called as a struct is, where it was not read
	s.Fns[0].Name = "T"
	l = []api.Local{{Name: "x", Ty: ty(api.TyCo, "T")}, {Name: "y", Ty: ty(api.TyStruct, "T")}}
	s.Structs[2].Fields = s.Structs[2].Fields[:1]
	makes(t, s, l, api.Rv{K: api.RvMake, Name: "All", Ops: []api.Oper{oper(t, "y")}}, "All")
	fails(t, s, l, api.Rv{K: api.RvMake, Name: "All", Ops: []api.Oper{oper(t, "x")}}, api.ErrType)
}
