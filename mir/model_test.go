package mir_test

import (
	"reflect"

	"cocoon/api"
	"cocoon/kinds"
	"cocoon/tree"
	"cocoon/types"
)

// model answers as the chapter says it, sentence by sentence.
type model struct {
	api.Source
	api.Body
}

// spot goes from the last step of a spot to the local.
func (m model) spot(x api.Spot) (api.Ty, bool, bool) {
	if len(x.Path) == 0 {
		if x.Local < 0 || x.Local >= len(m.Locals) {
			return api.Ty{}, false, false
		}
		return m.Locals[x.Local].Ty, false, true
	}
	last := len(x.Path) - 1
	t, shared, ok := m.spot(api.Spot{Local: x.Local, Path: x.Path[:last]})
	if !ok {
		return api.Ty{}, false, false
	}
	switch {
	case t.K == api.TyRef && x.Path[last] == -1 && len(t.L) == 1:
		return t.L[0], true, true
	case (t.K == api.TyBox || t.K == api.TyMut) && x.Path[last] == -1 && len(t.L) == 1:
		return t.L[0], shared, true
	case t.K == api.TyStruct:
		for _, s := range m.Structs {
			if s.Name != t.Name {
				continue
			}
			for i, f := range s.Fields {
				if u, err := kinds.Resolve(m.Source, f.Ty); i == x.Path[last] && err == api.OK {
					return u, shared, true
				}
			}
			break
		}
	}
	return api.Ty{}, false, false
}

// use is the type of one that is right.
func (m model) use(u api.Use) (api.Ty, bool) {
	if u.Num {
		return num(), !u.Move && u.S.Local == 0 && len(u.S.Path) == 0
	}
	t, _, ok := m.spot(u.S)
	copied := t.K == api.TyUnit || t.K == api.TyInt || t.K == api.TyRef
	return t, ok && u.N == 0 && (copied && !u.Move || !copied && u.Move && len(u.S.Path) == 0)
}

func (m model) value(v api.Value) (api.Ty, api.Errno) {
	for _, err := range []func(api.Value) api.Errno{m.wrongWhich, m.wrongTag, wrongKind, m.wrongSpot, m.wrongCount} {
		if err := err(v); err != api.OK {
			return api.Ty{}, err
		}
	}
	var first api.Ty
	for i, u := range v.Uses {
		t, ok := m.use(u)
		if !ok {
			return api.Ty{}, api.ErrPlace
		}
		if i == 0 {
			first = t
		}
		want, some := m.wanted(v)
		if !some {
			continue
		}
		if want, err := kinds.Resolve(m.Source, want[i]); err != api.OK || !types.Same(t, want) {
			return api.Ty{}, api.ErrType
		}
	}
	if v.K == api.RvBox && kinds.Holds(first) {
		return api.Ty{}, api.ErrHold
	}
	at, _, _ := m.spot(v.S)
	switch v.K {
	case api.RvUse:
		return first, api.OK
	case api.RvRef:
		return ty(api.TyRef, "", at), api.OK
	case api.RvMut:
		return ty(api.TyMut, "", at), api.OK
	case api.RvBox:
		return ty(api.TyBox, "", first), api.OK
	case api.RvUnbox:
		return at.L[0], api.OK
	case api.RvMake:
		return ty(api.TyStruct, m.Structs[v.Which].Name), api.OK
	case api.RvVariant:
		return ty(api.TyEnum, m.Enums[v.Which].Name), api.OK
	case api.RvStart:
		return ty(api.TyCo, m.Fns[v.Which].Name), api.OK
	}
	return num(), api.OK
}

func (m model) wrongWhich(v api.Value) api.Errno {
	n := map[api.RvKind]int{api.RvMake: len(m.Structs), api.RvVariant: len(m.Enums), api.RvStart: len(m.Fns)}
	long, is := n[v.K]
	switch {
	case is && (v.Which < 0 || v.Which >= long):
		return api.ErrUnknown
	case !is && v.Which != 0:
		return api.ErrType
	}
	return api.OK
}

func (m model) wrongTag(v api.Value) api.Errno {
	switch {
	case v.K == api.RvVariant && (v.Tag < 0 || v.Tag >= len(m.Enums[v.Which].Variants)):
		return api.ErrVariant
	case v.K != api.RvVariant && v.Tag != 0:
		return api.ErrType
	}
	return api.OK
}

func wrongKind(v api.Value) api.Errno {
	switch v.K {
	case api.RvUse, api.RvAdd, api.RvSub, api.RvMul, api.RvLess, api.RvSame, api.RvRef, api.RvMut, api.RvBox, api.RvUnbox, api.RvMake, api.RvVariant, api.RvStart:
		return api.OK
	}
	return api.ErrType
}

func (m model) wrongSpot(v api.Value) api.Errno {
	t, shared, ok := m.spot(v.S)
	switch v.K {
	case api.RvRef, api.RvMut:
		if !ok {
			return api.ErrPlace
		}
		if kinds.Holds(t) {
			return api.ErrHold
		}
		if v.K == api.RvMut && shared {
			return api.ErrPlace
		}
		return api.OK
	case api.RvUnbox:
		if !ok || len(v.S.Path) > 0 {
			return api.ErrPlace
		}
		if t.K != api.TyBox || len(t.L) != 1 {
			return api.ErrType
		}
		return api.OK
	}
	if v.S.Local != 0 || len(v.S.Path) > 0 {
		return api.ErrPlace
	}
	return api.OK
}

// wanted are the types of uses, as they are declared; false, if they may be of any.
func (m model) wanted(v api.Value) ([]api.Ty, bool) {
	var l []api.Ty
	switch v.K {
	case api.RvUse, api.RvBox:
		return []api.Ty{{}}, false
	case api.RvAdd, api.RvSub, api.RvMul, api.RvLess, api.RvSame:
		l = append(l, num(), num())
	case api.RvMake:
		for _, f := range m.Structs[v.Which].Fields {
			l = append(l, f.Ty)
		}
	case api.RvVariant:
		if u := m.Enums[v.Which].Variants[v.Tag].Ty; u.K != api.TyUnit {
			l = append(l, u)
		}
	case api.RvStart:
		for _, f := range m.Fns[v.Which].Params {
			l = append(l, f.Ty)
		}
	}
	return l, true
}

func (m model) wrongCount(v api.Value) api.Errno {
	if l, _ := m.wanted(v); len(l) != len(v.Uses) {
		return api.ErrCount
	}
	return api.OK
}

func (m model) valid() bool {
	n := len(m.Locals)
	if len(m.Blocks) < 1 || n < 1 || n > 201 || m.Params < 0 || m.Params > n-1 {
		return false
	}
	if m.Locals[n-1].Name != "" || m.Locals[n-1].Ty.K != api.TyInt {
		return false
	}
	for _, x := range m.Locals {
		if u, err := kinds.Resolve(m.Source, x.Ty); err != api.OK || !types.Same(u, x.Ty) {
			return false
		}
		for _, in := range x.Ty.L {
			if kinds.Holds(in) {
				return false
			}
		}
	}
	for _, x := range m.Blocks {
		for _, in := range x.Ins {
			if !m.in(in) {
				return false
			}
		}
		if !m.end(x.End) {
			return false
		}
		for _, to := range x.End.To {
			if to < 0 || to >= len(m.Blocks) {
				return false
			}
		}
	}
	return true
}

// bare is a thing of which all lists without things are nil, and nothing stands anywhere.
func bare[T any](x T) T {
	x = cloned(x)
	strip(reflect.ValueOf(&x).Elem())
	return x
}

func strip(v reflect.Value) {
	switch v.Kind() {
	case reflect.Slice:
		if v.Len() == 0 {
			v.SetZero()
		}
		for i := range v.Len() {
			strip(v.Index(i))
		}
	case reflect.Struct:
		for i := range v.NumField() {
			if v.Type().Field(i).Name == "At" {
				v.Field(i).SetZero()
			}
			strip(v.Field(i))
		}
	}
}

// in takes what a step tells of, and asks whether the rest is zero.
func (m model) in(x api.In) bool {
	x = bare(x)
	s, v, u := x.S, x.V, x.U
	t, shared, ok := m.spot(s)
	switch x.K {
	case api.InLive, api.InDead, api.InDrop:
		ok = s.Local >= 0 && s.Local < len(m.Locals)-1 && len(s.Path) == 0
		x.S = api.Spot{}
		if x.K == api.InDrop && reflect.DeepEqual(u, api.Use{Move: true, S: s}) {
			x.U = api.Use{}
		}
	case api.InSet:
		made, err := m.value(v)
		ok = ok && err == api.OK && types.Same(made, t) && (len(s.Path) == 0 || t.K == api.TyInt && !shared)
		x.S, x.V = api.Spot{}, api.Value{}
	case api.InPrint:
		t, ok = m.use(u)
		ok = ok && t.K == api.TyInt
		x.U = api.Use{}
	case api.InOpen:
		ok = m.opens(s, v)
		x.S, x.V.Tag, x.V.S = api.Spot{}, 0, api.Spot{}
	default:
		return false
	}
	x.K = 0
	return ok && reflect.DeepEqual(x, api.In{})
}

// variants are those of the enum that a local is of.
func (m model) variants(x api.Spot) ([]api.Variant, bool) {
	t, _, ok := m.spot(x)
	if !ok || t.K != api.TyEnum || len(x.Path) > 0 {
		return nil, false
	}
	for _, e := range m.Enums {
		if e.Name == t.Name {
			return e.Variants, true
		}
	}
	return nil, false
}

func (m model) opens(x api.Spot, v api.Value) bool {
	l, ok := m.variants(x)
	if !ok || v.Tag < 0 || v.Tag >= len(l) || len(v.S.Path) > 0 {
		return false
	}
	if l[v.Tag].Ty.K == api.TyUnit {
		return v.S.Local == -1
	}
	held, err := kinds.Resolve(m.Source, l[v.Tag].Ty)
	t, _, ok := m.spot(v.S)
	return ok && err == api.OK && types.Same(t, held)
}

// end does so with an end.
func (m model) end(x api.Tm) bool {
	x = bare(x)
	ok, want := true, 1
	if x.K == api.TmIf || x.K == api.TmReturn || x.K == api.TmYield || x.K == api.TmWait {
		var t api.Ty
		t, ok = m.use(x.U)
		ok = ok && t.K == api.TyInt
		x.U = api.Use{}
	}
	if x.K == api.TmAwait || x.K == api.TmPoll || x.K == api.TmWait {
		t, shared, is := m.spot(x.S)
		ok = ok && is && t.K == api.TyInt && !shared
		x.S = api.Spot{}
	}
	switch x.K {
	case api.TmGoto, api.TmYield, api.TmWait:
	case api.TmIf:
		want = 2
	case api.TmReturn:
		want = 0
	case api.TmMatch:
		var l []api.Variant
		l, ok = m.variants(x.S)
		want, x.S = len(l), api.Spot{}
	case api.TmAwait, api.TmPoll:
		t, _, is := m.spot(x.V.S)
		ok = ok && is && t.K == api.TyCo && len(x.V.S.Path) == 0
		x.V.S = api.Spot{}
	default:
		return false
	}
	ok = ok && len(x.To) == want
	x.K, x.To = 0, nil
	return ok && reflect.DeepEqual(x, api.Tm{})
}

// text is a body's, told from the chapter's forms: each word in them is put in by its name.
func (m model) text() string {
	out := m.Name + " " + itoa(m.Params) + "\n"
	for i, x := range m.Locals {
		out += "\t" + itoa(i) + " " + x.Name + " " + tree.Type(x.Ty) + "\n"
	}
	for i, x := range m.Blocks {
		out += "block " + itoa(i) + "\n"
		for _, in := range x.Ins {
			form, ok := map[api.InKind]string{api.InLive: "live L", api.InDead: "dead L", api.InSet: "set S = V", api.InDrop: "end L", api.InPrint: "print U", api.InOpen: "open S Tag Local"}[in.K]
			if in.K == api.InDrop && in.U.Move {
				form = "drop L"
			}
			out += "\t" + told(form, ok, in.S, in.V, in.U, nil) + "\n"
		}
		form, ok := map[api.TmKind]string{api.TmGoto: "goto ..", api.TmIf: "if U ..", api.TmMatch: "match S ..", api.TmReturn: "return U", api.TmYield: "yield U ..", api.TmAwait: "await S Local ..", api.TmPoll: "poll S Local ..", api.TmWait: "wait S U .."}[x.End.K]
		out += "\t" + told(form, ok, x.End.S, x.End.V, x.End.U, x.End.To) + "\n"
	}
	return out
}
