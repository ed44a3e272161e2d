package mir_test

import (
	"reflect"
	"slices"
	"testing"

	"cocoon/api"
	"cocoon/kinds"
	"cocoon/types"
)

// dice are numbers one behind the other, always the same ones.
type dice uint64

func (d *dice) roll(n int) int {
	*d = *d*6364136223846793005 + 1442695040888963407
	return int(uint64(*d) >> 33 % uint64(n))
}

// maker makes bodies of known's locals.
type maker struct {
	*dice
	model
	spots []place // all that is reached from the locals, by a few steps
}

// place is a spot, and what stands there.
type place struct {
	x      api.Spot
	t      api.Ty
	shared bool
}

func newMaker(t *testing.T, d *dice) *maker {
	t.Helper()
	m := &maker{dice: d, model: model{source(t, decls), body(t, "")}}
	for i, x := range m.Locals {
		m.reach(place{api.Spot{Local: i}, x.Ty, false})
	}
	return m
}

func (m *maker) reach(p place) {
	m.spots = append(m.spots, p)
	for step := -1; step < 8 && len(p.x.Path) < 3; step++ {
		x := api.Spot{Local: p.x.Local, Path: append(slices.Clone(p.x.Path), step)}
		if t, shared, ok := m.spot(x); ok {
			m.reach(place{x, t, shared})
		}
	}
}

// among is one of the spots that fit, in a list of its own; false, if there is none.
func (m *maker) among(fits func(place) bool) (place, bool) {
	var l []int
	for i := range m.spots {
		if fits(m.spots[i]) {
			l = append(l, i)
		}
	}
	if len(l) == 0 {
		return place{}, false
	}
	p := m.spots[l[m.roll(len(l))]]
	p.x.Path = slices.Clone(p.x.Path)
	return p, true
}

// local is one of a type.
func (m *maker) local(fits func(api.Ty) bool) place {
	p, _ := m.among(func(p place) bool { return len(p.x.Path) == 0 && fits(p.t) })
	return p
}

func (m *maker) ofKind(k api.TyKind) place {
	return m.local(func(t api.Ty) bool { return t.K == k })
}

func isInt(t api.Ty) bool { return t.K == api.TyInt }

// use is one of a type, which some local has.
func (m *maker) useOf(t api.Ty) api.Use {
	if isInt(t) && m.roll(3) == 0 {
		return api.Use{Num: true, N: m.roll(9) - 4}
	}
	p, _ := m.among(func(p place) bool { return types.Same(p.t, t) && (kinds.Copies(t) || len(p.x.Path) == 0) })
	return api.Use{Move: !kinds.Copies(t), S: p.x}
}

func (m *maker) uses(l ...api.Ty) []api.Use {
	var all []api.Use
	for _, t := range l {
		t, _ := kinds.Resolve(m.Source, t)
		all = append(all, m.useOf(t))
	}
	return all
}

// value is one of a type.
func (m *maker) valueOf(t api.Ty) api.Value {
	if p := m.local(func(is api.Ty) bool { return types.Same(is, ty(api.TyBox, "", t)) }); p.t.K == api.TyBox && m.roll(3) == 0 {
		return api.Value{K: api.RvUnbox, S: p.x}
	}
	if m.roll(4) == 0 {
		return api.Value{Uses: []api.Use{m.useOf(t)}}
	}
	switch t.K {
	case api.TyRef, api.TyMut:
		k := map[api.TyKind]api.RvKind{api.TyRef: api.RvRef, api.TyMut: api.RvMut}[t.K]
		p, _ := m.among(func(p place) bool { return types.Same(p.t, t.L[0]) && (t.K == api.TyRef || !p.shared) })
		return api.Value{K: k, S: p.x}
	case api.TyBox:
		return api.Value{K: api.RvBox, Uses: m.uses(t.L[0])}
	case api.TyInt:
		return api.Value{K: api.RvAdd + api.RvKind(m.roll(5)), Uses: m.uses(num(), num())}
	}
	v := api.Value{K: map[api.TyKind]api.RvKind{api.TyStruct: api.RvMake, api.TyEnum: api.RvVariant, api.TyCo: api.RvStart}[t.K]}
	switch t.K {
	case api.TyStruct:
		v.Which = kinds.StructOf(m.Source, t.Name)
	case api.TyEnum:
		v.Which = kinds.EnumOf(m.Source, t.Name)
		v.Tag = m.roll(len(m.Enums[v.Which].Variants))
	case api.TyCo:
		v.Which = kinds.FnOf(m.Source, t.Name)
	}
	l, _ := m.wanted(v)
	v.Uses = m.uses(l...)
	return v
}

func (m *maker) step() api.In {
	named := api.Spot{Local: m.roll(len(m.Locals) - 1)}
	switch m.roll(9) {
	case 0:
		return api.In{K: api.InLive, S: named}
	case 1:
		return api.In{K: api.InDead, S: named}
	case 2:
		x := api.In{K: api.InDrop, S: named}
		if m.roll(2) == 0 {
			x.U = api.Use{Move: true, S: named}
		}
		return x
	case 3:
		return api.In{K: api.InPrint, U: m.useOf(num())}
	case 4:
		return m.open()
	case 5:
		p, _ := m.among(func(p place) bool { return isInt(p.t) && !p.shared })
		return api.In{K: api.InSet, S: p.x, V: m.valueOf(num())}
	}
	p := m.local(func(api.Ty) bool { return true })
	return api.In{K: api.InSet, S: p.x, V: m.valueOf(p.t)}
}

func (m *maker) open() api.In {
	p := m.ofKind(api.TyEnum)
	l, _ := m.variants(p.x)
	x := api.In{K: api.InOpen, S: p.x, V: api.Value{Tag: m.roll(len(l)), S: api.Spot{Local: -1}}}
	if u := l[x.V.Tag].Ty; u.K != api.TyUnit {
		u, _ = kinds.Resolve(m.Source, u)
		x.V.S = m.local(func(is api.Ty) bool { return types.Same(is, u) }).x
	}
	return x
}

func (m *maker) endOf(blocks int) api.Tm {
	x := api.Tm{K: api.TmKind(m.roll(8))}
	n := 1
	switch x.K {
	case api.TmIf:
		n = 2
	case api.TmReturn:
		n = 0
	case api.TmMatch:
		x.S = m.ofKind(api.TyEnum).x
		l, _ := m.variants(x.S)
		n = len(l)
	case api.TmAwait, api.TmPoll:
		x.V.S = m.ofKind(api.TyCo).x
	}
	switch x.K {
	case api.TmIf, api.TmReturn, api.TmYield, api.TmWait:
		x.U = m.useOf(num())
	}
	switch x.K {
	case api.TmAwait, api.TmPoll, api.TmWait:
		p, _ := m.among(func(p place) bool { return isInt(p.t) && !p.shared })
		x.S = p.x
	}
	for range n {
		x.To = append(x.To, m.roll(blocks))
	}
	return x
}

func (m *maker) body() api.Body {
	b := cloned(m.Body)
	b.Params = m.roll(len(b.Locals))
	n := 1 + m.roll(4)
	for range n {
		var x api.Block
		for range m.roll(5) {
			in := m.step()
			in.At = m.roll(99) - 9
			x.Ins = append(x.Ins, in)
		}
		x.End = m.endOf(n)
		x.End.At = m.roll(99) - 9
		b.Blocks = append(b.Blocks, x)
	}
	return b
}

// anySpot is one that may be nowhere.
func (m *maker) anySpot() api.Spot {
	p, _ := m.among(func(place) bool { return true })
	if m.roll(8) == 0 {
		p.x.Local = m.roll(len(m.Locals)+3) - 2
	}
	if m.roll(8) == 0 {
		p.x.Path = append(p.x.Path, m.roll(10)-2)
	}
	if len(p.x.Path) > 0 && m.roll(8) == 0 {
		p.x.Path[m.roll(len(p.x.Path))] = m.roll(10) - 2
	}
	return p.x
}

func (m *maker) anyType() api.Ty {
	return m.spots[m.roll(len(m.spots))].t
}

func (m *maker) anyUse() api.Use {
	u := m.useOf(num())
	if m.roll(2) == 0 {
		u = m.useOf(m.local(func(api.Ty) bool { return true }).t)
	}
	switch m.roll(12) {
	case 0:
		u.Num = !u.Num
	case 1:
		u.Move = !u.Move
	case 2:
		u.N = m.roll(3) - 1
	case 3, 4:
		u.S = m.anySpot()
	}
	return u
}

// anyValue is one that may be wrong in a field, or in two.
func (m *maker) anyValue() api.Value {
	v := m.valueOf(m.local(func(api.Ty) bool { return true }).t)
	for range m.roll(3) {
		switch m.roll(9) {
		case 0:
			v.K = api.RvKind(m.roll(19) - 1)
		case 1:
			v.Which = m.roll(7) - 1
		case 2:
			v.Tag = m.roll(8) - 2
		case 3, 4:
			v.S = m.anySpot()
		case 5:
			v.Uses = append(v.Uses, m.anyUse())
		case 6:
			v.Uses = v.Uses[:max(0, len(v.Uses)-1)]
		case 7, 8:
			if len(v.Uses) > 0 {
				v.Uses[m.roll(len(v.Uses))] = m.anyUse()
			}
		}
	}
	return v
}

// spoil changes one thing of a body.
func (m *maker) spoil(b *api.Body) {
	x := &b.Blocks[m.roll(len(b.Blocks))]
	switch k := m.roll(10); {
	case k == 0:
		m.spoilLocals(b)
	case k < 4 && len(x.Ins) > 0:
		m.spoilStep(&x.Ins[m.roll(len(x.Ins))])
	case k < 6:
		m.spoilEnd(b, &x.End)
	default:
		m.spoilField(b)
	}
}

func (m *maker) spoilLocals(b *api.Body) {
	i := m.roll(len(b.Locals))
	last := len(b.Locals) - 1
	switch m.roll(7) {
	case 0:
		b.Locals[i].Ty = m.anyType()
	case 1:
		b.Locals[i].Name = ""
	case 2:
		b.Locals[last].Name = "x"
	case 3:
		b.Locals = slices.Insert(b.Locals, i, api.Local{Ty: num()})
	case 4:
		b.Locals = b.Locals[:last]
	case 5:
		b.Params = m.roll(len(b.Locals)+4) - 2
	case 6:
		b.Locals[i].Ty = [...]api.Ty{{}, ty(api.TyStruct, "E"), ty(api.TyRef, "", ty(api.TyRef, "", num())), ty(api.TyBox, ""), ty(api.TyCo, "x"), ty(8, "")}[m.roll(6)]
	}
}

func (m *maker) spoilStep(x *api.In) {
	switch m.roll(5) {
	case 0:
		x.K = api.InKind(m.roll(8) - 1)
	case 1:
		x.S = m.anySpot()
	case 2:
		x.V = m.anyValue()
	case 3:
		x.U = m.anyUse()
	case 4:
		x.V.S = m.anySpot()
	}
}

func (m *maker) spoilEnd(b *api.Body, x *api.Tm) {
	switch m.roll(7) {
	case 0:
		x.K = api.TmKind(m.roll(10) - 1)
	case 1:
		x.S = m.anySpot()
	case 2:
		x.U = m.anyUse()
	case 3:
		x.V.S = m.anySpot()
	case 4:
		x.To = append(x.To, m.roll(len(b.Blocks)+2)-1)
	case 5:
		x.To = x.To[:max(0, len(x.To)-1)]
	case 6:
		if len(x.To) > 0 {
			x.To[m.roll(len(x.To))] = m.roll(len(b.Blocks)+2) - 1
		}
	}
}

// spoilField changes one number, bool or list of the blocks.
func (m *maker) spoilField(b *api.Body) {
	var l []leaf
	for i := range b.Blocks {
		for j := range b.Blocks[i].Ins {
			l = append(l, leaves("", reflect.ValueOf(&b.Blocks[i].Ins[j]).Elem())...)
		}
		l = append(l, leaves("", reflect.ValueOf(&b.Blocks[i].End).Elem())...)
	}
	v := l[m.roll(len(l))].value
	others := others(v)
	v.Set(others[m.roll(len(others))])
}
