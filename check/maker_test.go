package check_test

import (
	"reflect"
	"slices"
	"strconv"

	"cocoon/api"
	"cocoon/kinds"
)

// dice are numbers one behind the other, always the same ones.
type dice uint64

func (d *dice) roll(n int) int {
	*d = *d*6364136223846793005 + 1442695040888963407
	return int(uint64(*d) >> 33 % uint64(n))
}

func (d *dice) pick(all ...string) string { return all[d.roll(len(all))] }

// maker makes coroutines in which all has its type: what is missing where it is needed is let ahead of it.
type maker struct {
	*dice
	model
	known []spot // all that is reached from the names that are known, by a few steps
	had   int    // names so far
	at    int    // of the last statement
}

// spot is a place that is known.
type spot struct {
	p      api.Place
	t      api.Ty
	shared bool
}

// coroutine is one with parameters by which a value of each type can be made.
func (m *maker) coroutine(name string) api.Fn {
	f := api.Fn{Name: name, At: m.next()}
	for _, s := range m.Structs {
		f.Params = append(f.Params,
			api.Field{Name: m.fresh(), Ty: ty(api.TyStruct, s.Name)},
			api.Field{Name: m.fresh(), Ty: ty(api.TyBox, "", ty(api.TyStruct, s.Name))})
	}
	f.Params = append(f.Params, api.Field{Name: m.fresh(), Ty: num()})
	m.known = nil
	for _, p := range f.Params {
		m.know(p.Name, p.Ty)
	}
	f.Body = m.row(3)
	if !m.ends(f.Body) {
		f.Body = append(f.Body, api.Stmt{K: api.StReturn, At: m.next(), Op: m.number()})
	}
	return f
}

func (m *maker) next() int {
	m.at += 1 + m.roll(3)
	return m.at
}

func (m *maker) fresh() string {
	m.had++
	return "n" + strconv.Itoa(m.had)
}

// row is statements, at most so deep in one another.
func (m *maker) row(deep int) []api.Stmt {
	ahead := len(m.known) // what is known here alone goes with it
	var out []api.Stmt
	for range m.roll(5) + 1 {
		m.stmt(&out, deep)
		if m.ends(out) {
			break
		}
	}
	m.known = m.known[:ahead]
	return out
}

func (m *maker) stmt(out *[]api.Stmt, deep int) {
	add := func(s api.Stmt) {
		s.At = m.next()
		*out = append(*out, s)
	}
	switch k := m.roll(14); {
	case k < 4:
		m.let(out, m.ty(2), 0)
	case k < 7:
		x := m.settable()
		v := m.value(out, x.t, 0)
		add(api.Stmt{K: api.StSet, P: x.p, Rv: v})
	case k < 9 && deep > 0:
		add(api.Stmt{K: api.StIf, Op: m.oper(out, num(), 0)})
		at := len(*out) - 1
		then := m.row(deep - 1)
		(*out)[at].Then = then
		if m.roll(3) > 0 {
			other := m.row(deep - 1)
			(*out)[at].Else = other
		}
	case k < 10 && deep > 0:
		add(api.Stmt{K: api.StWhile, Op: m.oper(out, num(), 0)})
		at := len(*out) - 1
		then := m.row(deep - 1)
		(*out)[at].Then = then
	case k < 11 && deep > 0:
		m.matching(out, deep)
	case k < 12:
		add(api.Stmt{K: api.StDrop, P: api.Place{Name: m.known[m.roll(len(m.known))].p.Name}})
	case k < 13 && m.roll(3) == 0:
		add(api.Stmt{K: api.StReturn, Op: m.oper(out, num(), 0)})
	default:
		k := []api.StKind{api.StYield, api.StPrint}[m.roll(2)]
		add(api.Stmt{K: k, Op: m.oper(out, num(), 0)})
	}
}

func (m *maker) matching(out *[]api.Stmt, deep int) {
	e := m.Enums[m.roll(len(m.Enums))]
	o := m.oper(out, ty(api.TyEnum, e.Name), 0)
	s := api.Stmt{K: api.StMatch, P: o.P, At: m.next()}
	for _, v := range e.Variants {
		a, ahead := api.Arm{Variant: v.Name}, len(m.known)
		if v.Ty.K != api.TyUnit {
			a.Bind = m.fresh()
			t, _ := kinds.Resolve(m.Source, v.Ty)
			m.know(a.Bind, t)
		}
		a.Body = m.row(deep - 1)
		m.known = m.known[:ahead]
		s.Arms = append(s.Arms, a)
	}
	*out = append(*out, s)
}

// ty is a type, resolved, with at most so many around it.
func (m *maker) ty(deep int) api.Ty {
	switch k := m.roll(9); {
	case k < 2 && deep == 2: // a reference stands in nothing
		return ty([]api.TyKind{api.TyRef, api.TyMut}[k], "", m.ty(1))
	case k < 4 && deep > 0:
		return ty(api.TyBox, "", m.ty(deep-1))
	case k == 4:
		return ty(api.TyStruct, m.Structs[m.roll(len(m.Structs))].Name)
	case k == 5:
		return ty(api.TyEnum, m.Enums[m.roll(len(m.Enums))].Name)
	case k == 6:
		return ty(api.TyCo, m.Fns[m.roll(len(m.Fns))].Name)
	}
	return num()
}

// written is a type as a text has it, mostly.
func (m *maker) written(t api.Ty) api.Ty {
	if t.K == api.TyEnum && m.roll(4) > 0 {
		t.K = api.TyStruct
	}
	t.L = slices.Clone(t.L)
	for i := range t.L {
		t.L[i] = m.written(t.L[i])
	}
	return t
}

// know adds a name, and some of what is reached from there.
func (m *maker) know(name string, t api.Ty) {
	first := len(m.known)
	m.known = append(m.known, spot{p: api.Place{Name: name}, t: t})
	for i := first; i < len(m.known) && len(m.known) < first+20; i++ {
		x := m.known[i]
		steps := []api.Step{{}}
		if s := kinds.StructOf(m.Source, x.t.Name); x.t.K == api.TyStruct && s >= 0 {
			for _, f := range m.Structs[s].Fields {
				steps = append(steps, api.Step{Field: f.Name})
			}
		}
		for _, step := range steps {
			if in, ok := m.step(x.t, step); ok {
				p := api.Place{Name: name, Path: append(slices.Clone(x.p.Path), step)}
				m.known = append(m.known, spot{p, in, x.shared || step.Field == "" && x.t.K == api.TyRef})
			}
		}
	}
}

// spot is one of those that fit, if there is one; in a list of its own.
func (m *maker) spot(fits func(spot) bool) (spot, bool) {
	var l []int
	for i, x := range m.known {
		if fits(x) {
			l = append(l, i)
		}
	}
	if len(l) == 0 {
		return spot{}, false
	}
	x := m.known[l[m.roll(len(l))]]
	x.p.Path = slices.Clone(x.p.Path)
	return x, true
}

func (m *maker) settable() spot {
	x, _ := m.spot(func(x spot) bool { return len(x.p.Path) == 0 || x.t.K == api.TyInt && !x.shared })
	return x
}

func (m *maker) number() api.Oper { return api.Oper{Num: true, N: m.roll(9) - 4} }

// let makes a new name of a type, and answers it.
func (m *maker) let(out *[]api.Stmt, t api.Ty, deep int) api.Place {
	v := m.value(out, t, deep)
	name := m.fresh()
	*out = append(*out, api.Stmt{K: api.StLet, At: m.next(), Name: name, Ty: m.written(t), Rv: v})
	m.know(name, t)
	return api.Place{Name: name}
}

// oper is an operand of a type.
func (m *maker) oper(out *[]api.Stmt, t api.Ty, deep int) api.Oper {
	if t.K == api.TyInt && m.roll(3) == 0 {
		return m.number()
	}
	x, ok := m.spot(func(x spot) bool { return alike(x.t, t) && (len(x.p.Path) == 0 || kinds.Copies(t)) })
	if !ok {
		x.p = m.let(out, t, deep+1)
	}
	return api.Oper{P: x.p}
}

func (m *maker) opers(out *[]api.Stmt, deep int, l ...api.Ty) []api.Oper {
	var all []api.Oper
	for _, t := range l {
		t, _ := kinds.Resolve(m.Source, t)
		all = append(all, m.oper(out, t, deep))
	}
	return all
}

// value is something of a type that is set.
func (m *maker) value(out *[]api.Stmt, t api.Ty, deep int) api.Rv {
	if x, ok := m.spot(func(x spot) bool { return alike(x.t, ty(api.TyBox, "", t)) && len(x.p.Path) == 0 }); ok && m.roll(4) == 0 {
		return api.Rv{K: api.RvUnbox, P: x.p}
	}
	if x, ok := m.spot(func(x spot) bool { return alike(x.t, t) && (len(x.p.Path) == 0 || kinds.Copies(t)) }); ok && (m.roll(3) == 0 || deep > 3) {
		return api.Rv{K: api.RvUse, Ops: []api.Oper{{P: x.p}}}
	}
	switch t.K {
	case api.TyStruct:
		var l []api.Ty
		for _, f := range m.Structs[kinds.StructOf(m.Source, t.Name)].Fields {
			l = append(l, f.Ty)
		}
		return api.Rv{K: api.RvMake, Name: t.Name, Ops: m.opers(out, deep, l...)}
	case api.TyEnum:
		l := m.Enums[kinds.EnumOf(m.Source, t.Name)].Variants
		v := l[m.roll(len(l))]
		if deep > 2 {
			v = l[0]
		}
		if v.Ty.K == api.TyUnit {
			return api.Rv{K: api.RvVariant, Name: t.Name, Variant: v.Name}
		}
		return api.Rv{K: api.RvVariant, Name: t.Name, Variant: v.Name, Ops: m.opers(out, deep, v.Ty)}
	case api.TyCo:
		var l []api.Ty
		for _, p := range m.Fns[kinds.FnOf(m.Source, t.Name)].Params {
			l = append(l, p.Ty)
		}
		return api.Rv{K: api.RvStart, Name: t.Name, Ops: m.opers(out, deep, l...)}
	case api.TyBox:
		return api.Rv{K: api.RvBox, Ops: m.opers(out, deep, t.L[0])}
	case api.TyRef, api.TyMut:
		return m.reference(out, t, deep)
	}
	return m.reckoned(out, deep)
}

func (m *maker) reference(out *[]api.Stmt, t api.Ty, deep int) api.Rv {
	x, ok := m.spot(func(x spot) bool { return alike(x.t, t.L[0]) && (t.K == api.TyRef || !x.shared) })
	if !ok {
		x.p = m.let(out, t.L[0], deep+1)
	}
	if t.K == api.TyRef {
		return api.Rv{K: api.RvRef, P: x.p}
	}
	return api.Rv{K: api.RvMut, P: x.p}
}

func (m *maker) reckoned(out *[]api.Stmt, deep int) api.Rv {
	if m.roll(6) == 0 {
		return api.Rv{K: api.RvWait, Ops: m.opers(out, deep, num())}
	}
	if m.roll(4) == 0 {
		x, ok := m.spot(func(x spot) bool { return x.t.K == api.TyCo && len(x.p.Path) == 0 })
		if ok {
			return api.Rv{K: []api.RvKind{api.RvAwait, api.RvPoll}[m.roll(2)], P: x.p}
		}
	}
	return api.Rv{K: api.RvAdd + api.RvKind(m.roll(5)), Ops: m.opers(out, deep, num(), num())}
}

// all are those of a type that stand somewhere in a thing.
func allOf[T, S any](in *S) []*T {
	var l []*T
	var look func(v reflect.Value)
	look = func(v reflect.Value) {
		if x, ok := v.Addr().Interface().(*T); ok {
			l = append(l, x)
		}
		switch v.Kind() {
		case reflect.Struct:
			for i := range v.NumField() {
				look(v.Field(i))
			}
		case reflect.Slice:
			for i := range v.Len() {
				look(v.Index(i))
			}
		}
	}
	look(reflect.ValueOf(in).Elem())
	return l
}

func oneOf[T, S any](d *dice, in *S) *T {
	l := allOf[T](in)
	if len(l) == 0 {
		return new(T)
	}
	return l[d.roll(len(l))]
}
