package check_test

import (
	"reflect"
	"testing"

	"cocoon/api"
	"cocoon/check"
)

// places are asked with these names known: one of each kind of type, references to them, and in one another.
const known = "x: int, p: P, d: D, s: S, none: None, e: E, c: co h, b: box int, bs: box S, bb: box box P, " +
	"r: &int, rp: &P, rs: &S, rb: &box S, rr: & & int, rm: & &mut P, m: &mut int, mp: &mut P, ms: &mut S, mr: &mut &P, mb: &mut box int, br: box &int, bm: box &mut int, cr: & co h, er: &E"

func TestPlace(t *testing.T) {
	s := source(t, decls)
	l := names(t, s, known)
	for _, x := range []struct {
		place, ty string
		shared    bool
	}{
		{"x", "int", false},
		{"p", "P", false},
		{"d", "D", false},
		{"e", "E", false},
		{"c", "co h", false},
		{"b", "box int", false},
		{"bb", "box box P", false},
		{"r", "&int", false},
		{"m", "&mut int", false},
		{"rr", "& & int", false},
		// fields
		{"p.x", "int", false},
		{"p.y", "int", false},
		{"d.n", "int", false},
		{"s.p", "P", false},
		{"s.p.y", "int", false},
		{"s.d", "D", false},
		{"s.d.n", "int", false},
		{"s.e", "E", false},
		{"s.b", "box S", false},
		{"s.be", "box E", false},
		{"s.c", "co g", false},
		// what something is the address of
		{"b.*", "int", false},
		{"bs.*", "S", false},
		{"bs.*.e", "E", false},
		{"bs.*.b.*.b.*.p.x", "int", false},
		{"s.be.*", "E", false},
		{"s.i.*", "int", false},
		{"bb.*", "box P", false},
		{"bb.*.*", "P", false},
		{"bb.*.*.x", "int", false},
		{"m.*", "int", false},
		{"mp.*", "P", false},
		{"mp.*.y", "int", false},
		{"ms.*.b.*.d.n", "int", false},
		{"mb.*", "box int", false},
		{"mb.*.*", "int", false},
		{"bm.*", "&mut int", false},
		{"bm.*.*", "int", false},
		// through a shared reference, and from there on
		{"r.*", "int", true},
		{"rp.*", "P", true},
		{"rp.*.x", "int", true},
		{"rs.*.b", "box S", true},
		{"rs.*.b.*.e", "E", true},
		{"rb.*", "box S", true},
		{"rb.*.*.p", "P", true},
		{"rr.*", "&int", true},
		{"rr.*.*", "int", true},
		{"rm.*", "&mut P", true},
		{"rm.*.*", "P", true},
		{"rm.*.*.y", "int", true},
		{"mr.*", "&P", false},
		{"mr.*.*", "P", true},
		{"mr.*.*.x", "int", true},
		{"br.*", "&int", false},
		{"br.*.*", "int", true},
		{"cr.*", "co h", true},
		{"er.*", "E", true},
	} {
		got, shared, err := check.Place(s, l, place(t, x.place))
		if want := typed(t, s, x.ty); err != api.OK || !alike(got, want) || shared != x.shared {
			t.Errorf("%s is %+v, %v, %v, want %+v, %v", x.place, got, shared, err, want, x.shared)
		}
	}
}

func TestPlaceWrong(t *testing.T) {
	s := source(t, decls)
	l := names(t, s, known)
	for _, x := range []struct {
		place string
		err   api.Errno
	}{
		{"q", api.ErrUnknown},
		{"n", api.ErrUnknown}, // a field's name is none
		{"g", api.ErrUnknown}, // nor a coroutine's
		{"q.x", api.ErrUnknown},
		{"q.*", api.ErrUnknown},
		{"q.*.x.*", api.ErrUnknown},
		// no such field
		{"p.z", api.ErrPlace},
		{"p.z.*", api.ErrPlace},
		{"none.x", api.ErrPlace},
		{"s.p.n", api.ErrPlace},
		{"rp.*.z", api.ErrPlace},
		{"rs.*.x", api.ErrPlace},
		// of another type
		{"x.x", api.ErrPlace},
		{"e.x", api.ErrPlace},
		{"s.e.a", api.ErrPlace},
		{"c.a", api.ErrPlace},
		{"b.x", api.ErrPlace},
		{"bs.p", api.ErrPlace},
		{"rp.x", api.ErrPlace},
		{"mp.x", api.ErrPlace},
		{"bb.*.x", api.ErrPlace},
		{"p.x.x", api.ErrPlace},
		{"r.*.x", api.ErrPlace},
		// no address
		{"x.*", api.ErrPlace},
		{"p.*", api.ErrPlace},
		{"e.*", api.ErrPlace},
		{"c.*", api.ErrPlace},
		{"none.*", api.ErrPlace},
		{"p.x.*", api.ErrPlace},
		{"s.c.*", api.ErrPlace},
		{"b.*.*", api.ErrPlace},
		{"r.*.*", api.ErrPlace},
		{"m.*.*", api.ErrPlace},
		{"rr.*.*.*", api.ErrPlace},
		// the first one counts
		{"p.z.z", api.ErrPlace},
		{"x.*.q.*", api.ErrPlace},
	} {
		if got, shared, err := check.Place(s, l, place(t, x.place)); err != x.err || shared || !alike(got, api.Ty{}) {
			t.Errorf("%s is %+v, %v, %v, want %v", x.place, got, shared, err, x.err)
		}
	}
	for _, u := range []api.Ty{{}, ty(api.TyBox, ""), ty(api.TyRef, ""), ty(api.TyMut, ""), ty(api.TyStruct, "Nowhere"), ty(-1, ""), ty(8, "")} {
		for _, text := range []string{"x.*", "x.a", "x.*.a", "x.p"} {
			got, shared, err := check.Place(s, []api.Local{{Name: "x", Ty: u}}, place(t, text))
			if err != api.ErrPlace || shared || !alike(got, api.Ty{}) {
				t.Errorf("%s of %+v is %+v, %v, %v", text, u, got, shared, err)
			}
		}
	}
	if got, _, err := check.Place(api.Source{}, nil, api.Place{}); err != api.ErrUnknown || !alike(got, api.Ty{}) {
		t.Errorf("a place without a name is %+v, %v", got, err)
	}
}

// TestLast: the last one of a name counts.
func TestLast(t *testing.T) {
	s := source(t, decls)
	l := names(t, s, "x: int, y: P, x: box int, z: D, x: P, y: int, w: E")
	for text, want := range map[string]string{"x": "P", "x.y": "int", "y": "int", "z": "D", "w": "E"} {
		got, _, err := check.Place(s, l, place(t, text))
		if err != api.OK || !alike(got, typed(t, s, want)) {
			t.Errorf("%s is %+v, %v, want %s", text, got, err, want)
		}
	}
	if _, _, err := check.Place(s, l, place(t, "x.*")); err != api.ErrPlace {
		t.Errorf("the box is known by %v", err)
	}
	got, err := check.Set(s, l, set(t, "x.x + y"))
	if err != api.OK || !alike(got, num()) {
		t.Errorf("the sum is %+v, %v", got, err)
	}
	if got, err := check.Oper(s, l[:3], oper(t, "x")); err != api.OK || !alike(got, typed(t, s, "box int")) {
		t.Errorf("of three names the last one is %+v, %v", got, err)
	}
}

// TestPlaceUnchecked: of a source whose declarations are wrong.
func TestPlaceUnchecked(t *testing.T) {
	s := source(t, `
		struct T { a: int, u: Nowhere, bu: box Nowhere, c: co nowhere, r: &int, t: T }
		struct T { b: int }
		enum T { X }
		enum W { X }`)
	s.Structs[0].Fields = append(s.Structs[0].Fields,
		api.Field{Name: "unit"},
		api.Field{Name: "empty", Ty: ty(api.TyBox, "")},
		api.Field{Name: "odd", Ty: ty(9, "")},
		api.Field{Name: "en", Ty: ty(api.TyEnum, "Nowhere")},
		api.Field{Name: "w", Ty: ty(api.TyStruct, "W")})
	l := []api.Local{{Name: "x", Ty: ty(api.TyStruct, "T")}}
	for _, text := range []string{"x.u", "x.bu", "x.c", "x.unit", "x.empty", "x.odd", "x.b", "x.t.b", "x.t.u", "x.bu.*", "x.en"} {
		if got, _, err := check.Place(s, l, place(t, text)); err != api.ErrPlace || !alike(got, api.Ty{}) {
			t.Errorf("%s is %+v, %v", text, got, err)
		}
	}
	for text, want := range map[string]api.Ty{
		"x.a":   num(),
		"x.t.a": num(),
		"x.r":   ty(api.TyRef, "", num()),
		"x.t.t": ty(api.TyStruct, "T"),
		"x.w":   ty(api.TyEnum, "W"),
	} {
		if got, _, err := check.Place(s, l, place(t, text)); err != api.OK || !alike(got, want) {
			t.Errorf("%s is %+v, %v, want %+v", text, got, err, want)
		}
	}
	if got, shared, err := check.Place(s, l, place(t, "x.t.r.*")); err != api.OK || !alike(got, num()) || !shared {
		t.Errorf("behind a field's reference is %+v, %v, %v", got, shared, err)
	}
}

func TestOper(t *testing.T) {
	s := source(t, decls)
	l := names(t, s, known)
	for text, want := range map[string]string{
		"0": "int", "-7": "int", "9223372036854775807": "int",
		// without steps, all may be moved
		"x": "int", "p": "P", "d": "D", "none": "None", "e": "E", "c": "co h", "b": "box int", "bb": "box box P", "r": "&int", "m": "&mut int", "br": "box &int",
		// with steps, what is copied
		"p.x": "int", "s.p.x": "int", "bs.*.n": "int", "b.*": "int", "r.*": "int", "m.*": "int", "rr.*": "&int", "mr.*": "&P", "br.*": "&int", "rr.*.*": "int", "rm.*.*.x": "int",
	} {
		if got, err := check.Oper(s, l, oper(t, text)); err != api.OK || !alike(got, typed(t, s, want)) {
			t.Errorf("%s is %+v, %v, want %s", text, got, err, want)
		}
	}
	for text, want := range map[string]api.Errno{
		"s.p": api.ErrMove, "s.d": api.ErrMove, "s.e": api.ErrMove, "s.b": api.ErrMove, "s.c": api.ErrMove,
		"bs.*": api.ErrMove, "bs.*.p": api.ErrMove, "bb.*": api.ErrMove, "bb.*.*": api.ErrMove, "bm.*": api.ErrMove,
		"rp.*": api.ErrMove, "rs.*.e": api.ErrMove, "rb.*": api.ErrMove, "rm.*": api.ErrMove, "cr.*": api.ErrMove, "er.*": api.ErrMove,
		"mp.*": api.ErrMove, "mb.*": api.ErrMove,
		"q": api.ErrUnknown, "q.p": api.ErrUnknown, "q.*": api.ErrUnknown,
		"p.z": api.ErrPlace, "x.*": api.ErrPlace, "s.p.*": api.ErrPlace, "e.a": api.ErrPlace, "rp.x": api.ErrPlace,
	} {
		if got, err := check.Oper(s, l, oper(t, text)); err != want || !alike(got, api.Ty{}) {
			t.Errorf("%s is %+v, %v, want %v", text, got, err, want)
		}
	}
	if got, err := check.Oper(s, nil, api.Oper{Num: true, N: 1, P: place(t, "q.z")}); err != api.OK || !alike(got, num()) {
		t.Errorf("a number is %+v, %v", got, err)
	}
	if got, err := check.Oper(s, nil, api.Oper{}); err != api.ErrUnknown || !alike(got, api.Ty{}) {
		t.Errorf("nothing is %+v, %v", got, err)
	}
	// a unit is copied
	within := []api.Local{{Name: "u", Ty: ty(api.TyBox, "", api.Ty{})}}
	if got, err := check.Oper(s, within, oper(t, "u.*")); err != api.OK || !alike(got, api.Ty{}) {
		t.Errorf("a unit is %+v, %v", got, err)
	}
}

// TestApart: what is answered shares nothing with what was handed in, and changes nothing of it.
func TestApart(t *testing.T) {
	s := source(t, decls+"struct Deep { a: box box box E }")
	l := append(names(t, s, known+", deep: Deep, d3: box box box E"), api.Local{Name: "odd", Ty: ty(api.TyStruct, "P", ty(api.TyBox, "", num()))})
	wasS, wasL := cloned(s), cloned(l)
	spoil := func(u api.Ty) {
		for len(u.L) > 0 {
			u.L[0].K, u.L[0].Name = 77, "Spoilt"
			u = u.L[0]
		}
	}
	for _, text := range []string{"bb", "bb.*", "rr", "deep.a", "deep.a.*", "d3", "d3.*", "s.b", "rs.*.be", "br.*", "odd", "mr"} {
		u, _, _ := check.Place(s, l, place(t, text))
		spoil(u)
		u, _ = check.Oper(s, l, oper(t, text))
		spoil(u)
	}
	for _, text := range []string{"bb", "d3", "box bb", "&deep.a", "&mut deep.a.*", "&d3", "unbox d3", "unbox bb", "odd", "&odd", "box odd", "rr.*", "br.*", "S(p, d, e, bs, c, 1, b, d3)", "&mut ms.*.b", "start h(x, b, e)"} {
		u, _ := check.Set(s, l, set(t, text))
		spoil(u)
	}
	if !reflect.DeepEqual(s, wasS) || !reflect.DeepEqual(l, wasL) {
		t.Errorf("%+v, %+v", s, l)
	}
	// nor does it change later
	first, _, _ := check.Place(s, l, place(t, "d3.*"))
	second, _ := check.Set(s, l, set(t, "&d3"))
	for i := range l {
		spoil(l[i].Ty)
	}
	if !alike(first, typed(t, s, "box box E")) || !alike(second, typed(t, s, "& box box box E")) {
		t.Errorf("%+v, %+v", first, second)
	}
}

// TestSpare: names are not laid in the room behind those that were handed in.
func TestSpare(t *testing.T) {
	s := source(t, decls)
	all := names(t, s, known)
	was := cloned(all)
	for n := range all {
		check.Place(s, all[:n], place(t, "rs.*.b"))
		check.Oper(s, all[:n], oper(t, "x"))
		check.Set(s, all[:n], set(t, "&mut p"))
	}
	if !reflect.DeepEqual(all, was) {
		t.Errorf("%+v", all)
	}
}
