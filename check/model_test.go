package check_test

import (
	"slices"

	"cocoon/api"
	"cocoon/kinds"
)

// model answers as the chapter says it, sentence by sentence; each error is handed back by whoever met it.
type model struct{ api.Source }

func (m model) place(l []api.Local, p api.Place) (api.Ty, bool, api.Errno) {
	t, found, shared := api.Ty{}, false, false
	for _, x := range l {
		if x.Name == p.Name {
			t, found = x.Ty, true
		}
	}
	if !found {
		return api.Ty{}, false, api.ErrUnknown
	}
	for _, step := range p.Path {
		in, ok := m.step(t, step)
		if !ok {
			return api.Ty{}, false, api.ErrPlace
		}
		if step.Field == "" && t.K == api.TyRef {
			shared = true
		}
		t = in
	}
	return t, shared, api.OK
}

func (m model) step(t api.Ty, step api.Step) (api.Ty, bool) {
	if step.Field == "" {
		if (t.K == api.TyBox || t.K == api.TyRef || t.K == api.TyMut) && len(t.L) > 0 {
			return t.L[0], true
		}
		return api.Ty{}, false
	}
	for _, x := range m.Structs {
		if t.K != api.TyStruct || x.Name != t.Name {
			continue
		}
		for _, f := range x.Fields {
			if f.Name == step.Field {
				in, err := kinds.Resolve(m.Source, f.Ty)
				return in, err == api.OK
			}
		}
		return api.Ty{}, false
	}
	return api.Ty{}, false
}

func (m model) oper(l []api.Local, o api.Oper) (api.Ty, api.Errno) {
	if o.Num {
		return num(), api.OK
	}
	t, _, err := m.place(l, o.P)
	if err == api.OK && len(o.P.Path) > 0 && t.K != api.TyUnit && t.K != api.TyInt && t.K != api.TyRef {
		return api.Ty{}, api.ErrMove
	}
	return t, err
}

// shown is how many operands chapter 5 shows; false, where that is not told by the kind, or none are looked at.
func shown(k api.RvKind) (int, bool) {
	switch k {
	case api.RvUse, api.RvBox, api.RvWait:
		return 1, true
	case api.RvAdd, api.RvSub, api.RvMul, api.RvLess, api.RvSame:
		return 2, true
	}
	return 0, false
}

func (m model) set(l []api.Local, v api.Rv) (api.Ty, api.Errno) {
	if n, ok := shown(v.K); ok {
		return m.ofOpers(l, v, n)
	}
	switch v.K {
	case api.RvRef, api.RvMut, api.RvUnbox, api.RvAwait, api.RvPoll:
		return m.ofPlace(l, v)
	case api.RvMake, api.RvVariant, api.RvStart:
		return m.ofName(l, v)
	}
	return api.Ty{}, api.ErrType
}

func (m model) ofOpers(l []api.Local, v api.Rv, n int) (api.Ty, api.Errno) {
	if len(v.Ops) != n {
		return api.Ty{}, api.ErrCount
	}
	first, ints := api.Ty{}, true
	for i, o := range v.Ops {
		t, err := m.oper(l, o)
		if err != api.OK {
			return api.Ty{}, err
		}
		if i == 0 {
			first = t
		}
		ints = ints && t.K == api.TyInt
	}
	switch {
	case v.K == api.RvUse:
		return first, api.OK
	case v.K == api.RvBox && kinds.Holds(first):
		return api.Ty{}, api.ErrHold
	case v.K == api.RvBox:
		return ty(api.TyBox, "", first), api.OK
	case !ints:
		return api.Ty{}, api.ErrType
	}
	return num(), api.OK
}

func (m model) ofPlace(l []api.Local, v api.Rv) (api.Ty, api.Errno) {
	lends := v.K == api.RvRef || v.K == api.RvMut
	if !lends && len(v.P.Path) > 0 {
		return api.Ty{}, api.ErrPlace
	}
	t, shared, err := m.place(l, v.P)
	switch {
	case err != api.OK:
		return api.Ty{}, err
	case lends && kinds.Holds(t):
		return api.Ty{}, api.ErrHold
	case v.K == api.RvMut && shared:
		return api.Ty{}, api.ErrPlace
	case v.K == api.RvMut:
		return ty(api.TyMut, "", t), api.OK
	case v.K == api.RvRef:
		return ty(api.TyRef, "", t), api.OK
	case v.K == api.RvUnbox && t.K == api.TyBox:
		return t.L[0], api.OK
	case v.K != api.RvUnbox && t.K == api.TyCo:
		return num(), api.OK
	}
	return api.Ty{}, api.ErrType
}

func (m model) ofName(l []api.Local, v api.Rv) (api.Ty, api.Errno) {
	k, wanted, err := m.wanted(v)
	switch {
	case err != api.OK:
		return api.Ty{}, err
	case len(wanted) != len(v.Ops):
		return api.Ty{}, api.ErrCount
	}
	for i, o := range v.Ops {
		t, err := m.oper(l, o)
		if err != api.OK {
			return api.Ty{}, err
		}
		if want, err := kinds.Resolve(m.Source, wanted[i].Ty); err != api.OK || !alike(t, want) {
			return api.Ty{}, api.ErrType
		}
	}
	return ty(k, v.Name), api.OK
}

// wanted is what a name makes, and of what.
func (m model) wanted(v api.Rv) (api.TyKind, []api.Field, api.Errno) {
	switch v.K {
	case api.RvMake:
		for _, x := range m.Structs {
			if x.Name == v.Name {
				return api.TyStruct, x.Fields, api.OK
			}
		}
	case api.RvStart:
		for _, x := range m.Fns {
			if x.Name == v.Name {
				return api.TyCo, x.Params, api.OK
			}
		}
	}
	for _, x := range m.Enums {
		if v.K != api.RvVariant || x.Name != v.Name {
			continue
		}
		for _, y := range x.Variants {
			if y.Name == v.Variant && y.Ty.K == api.TyUnit {
				return api.TyEnum, nil, api.OK
			}
			if y.Name == v.Variant {
				return api.TyEnum, []api.Field{api.Field(y)}, api.OK
			}
		}
		return 0, nil, api.ErrVariant
	}
	return 0, nil, api.ErrUnknown
}

func (m model) ends(l []api.Stmt) bool {
	for i, x := range l {
		if i < len(l)-1 {
			continue
		}
		if x.K == api.StReturn {
			return true
		}
		if x.K == api.StIf {
			return m.ends(x.Then) && m.ends(x.Else)
		}
		n := 0
		for _, a := range x.Arms {
			if m.ends(a.Body) {
				n++
			}
		}
		return x.K == api.StMatch && n > 0 && n == len(x.Arms)
	}
	return false
}

func (m model) check() (api.Errno, int) {
	if err, at := kinds.Check(m.Source); err != api.OK {
		return err, at
	}
	for _, f := range m.Fns {
		var l []api.Local
		var had []string
		for _, p := range f.Params {
			t, _ := kinds.Resolve(m.Source, p.Ty)
			l, had = append(l, api.Local{Name: p.Name, Ty: t}), append(had, p.Name)
		}
		if err, at := m.row(l, &had, f.Body); err != api.OK {
			return err, at
		}
		if !m.ends(f.Body) {
			return api.ErrEnd, f.At
		}
	}
	return api.OK, 0
}

// row goes through statements with names that are known ahead of them, and all that the coroutine had.
func (m model) row(l []api.Local, had *[]string, rows []api.Stmt) (api.Errno, int) {
	l = slices.Clone(l)
	for i, x := range rows {
		if i > 0 && m.ends(rows[i-1:i]) {
			return api.ErrEnd, x.At
		}
		err, in, at := api.OK, api.OK, 0
		switch x.K {
		case api.StLet:
			var t api.Ty
			t, err = m.let(l, had, x)
			l = append(l, api.Local{Name: x.Name, Ty: t})
		case api.StSet:
			err = m.stSet(l, x)
		case api.StMatch:
			err, in, at = m.match(l, had, x)
		case api.StDrop:
			_, _, err = m.place(l, x.P)
		default:
			var t api.Ty
			if t, err = m.oper(l, x.Op); err == api.OK && t.K != api.TyInt {
				err = api.ErrType
			}
			if err == api.OK {
				in, at = m.row(l, had, x.Then)
			}
			if err == api.OK && in == api.OK {
				in, at = m.row(l, had, x.Else)
			}
		}
		if err != api.OK {
			return err, x.At
		}
		if in != api.OK {
			return in, at
		}
	}
	return api.OK, 0
}

func take(had *[]string, name string) api.Errno {
	if slices.Contains(*had, name) {
		return api.ErrTwice
	}
	if *had = append(*had, name); len(*had) > 200 {
		return api.ErrCount
	}
	return api.OK
}

func (m model) let(l []api.Local, had *[]string, x api.Stmt) (api.Ty, api.Errno) {
	if err := take(had, x.Name); err != api.OK {
		return api.Ty{}, err
	}
	t, err := kinds.Resolve(m.Source, x.Ty)
	if err != api.OK {
		return api.Ty{}, err
	}
	for _, in := range t.L {
		if kinds.Holds(in) {
			return api.Ty{}, api.ErrHold
		}
	}
	is, err := m.set(l, x.Rv)
	if err == api.OK && !alike(is, t) {
		err = api.ErrType
	}
	return t, err
}

func (m model) stSet(l []api.Local, x api.Stmt) api.Errno {
	t, shared, err := m.place(l, x.P)
	if err != api.OK {
		return err
	}
	if len(x.P.Path) > 0 && (shared || t.K != api.TyInt) {
		return api.ErrPlace
	}
	is, err := m.set(l, x.Rv)
	if err == api.OK && !alike(is, t) {
		err = api.ErrType
	}
	return err
}

// match is what is wrong with it, or in one of its arms, and where that is.
func (m model) match(l []api.Local, had *[]string, x api.Stmt) (api.Errno, api.Errno, int) {
	t, _, err := m.place(l, x.P)
	if err != api.OK {
		return err, api.OK, 0
	}
	if t.K != api.TyEnum {
		return api.ErrType, api.OK, 0
	}
	variants := m.Enums[kinds.EnumOf(m.Source, t.Name)].Variants
	if len(x.Arms) != len(variants) {
		return api.ErrVariant, api.OK, 0
	}
	for i, v := range variants {
		if x.Arms[i].Variant != v.Name {
			return api.ErrVariant, api.OK, 0
		}
	}
	for i, v := range variants {
		arm, known := x.Arms[i], l
		if (arm.Bind == "") != (v.Ty.K == api.TyUnit) {
			return api.ErrCount, api.OK, 0
		}
		if arm.Bind != "" {
			if err := take(had, arm.Bind); err != api.OK {
				return err, api.OK, 0
			}
			in, _ := kinds.Resolve(m.Source, v.Ty)
			known = append(slices.Clone(l), api.Local{Name: arm.Bind, Ty: in})
		}
		if in, at := m.row(known, had, arm.Body); in != api.OK {
			return api.OK, in, at
		}
	}
	return api.OK, api.OK, 0
}
