package check_test

import (
	"slices"

	"cocoon/api"
)

// name is one that may be known somewhere; now and then it is not.
func (m *maker) name() string {
	if m.roll(8) == 0 {
		return m.pick("q", "g")
	}
	return "n" + itoa(1+m.roll(m.had+1))
}

func (m *maker) aStep() api.Step {
	return api.Step{Field: m.pick("", "", "x", "p", "n", "e", "b", "c", "be", "i", "z")}
}

// odd is a type that may be none.
func (m *maker) odd() api.Ty {
	in := m.ty(2)
	switch m.roll(9) {
	case 0:
		return ty(api.TyRef, "", in)
	case 1:
		return ty(api.TyBox, "", ty(api.TyMut, "", num()))
	case 2:
		return ty([]api.TyKind{-1, api.TyUnit, api.TyStruct, api.TyEnum, api.TyCo, 8}[m.roll(6)], m.pick("Nowhere", "P", "E", "g"))
	case 3:
		return ty(api.TyBox, "")
	}
	return m.written(in)
}

// spoil changes one thing of a coroutine.
func (m *maker) spoil(f *api.Fn) {
	ways := [...]func(*api.Fn){m.spoilPlace, m.spoilOper, m.spoilSet, m.spoilName, m.spoilRow, m.spoilRow, m.spoilMatch, m.spoilKind}
	ways[m.roll(len(ways))](f)
	for _, x := range allOf[api.Stmt](f) {
		if x.K == api.StMatch || x.K == api.StDrop { // what no text has, and the chapter says nothing of
			x.P.Path = nil
		}
	}
}

func (m *maker) spoilPlace(f *api.Fn) {
	p := oneOf[api.Place](m.dice, f)
	switch m.roll(4) {
	case 0:
		p.Name = m.name()
	case 1:
		p.Path = append(slices.Clone(p.Path), m.aStep())
	case 2:
		p.Path = p.Path[:max(0, len(p.Path)-1)]
	case 3:
		if len(p.Path) > 0 {
			p.Path[m.roll(len(p.Path))] = m.aStep()
		} else {
			p.Path = []api.Step{m.aStep()}
		}
	}
}

func (m *maker) spoilOper(f *api.Fn) {
	o := oneOf[api.Oper](m.dice, f)
	*o = m.number()
	if m.roll(3) > 0 {
		*o = api.Oper{P: api.Place{Name: m.name()}}
		for range m.roll(3) {
			o.P.Path = append(o.P.Path, m.aStep())
		}
	}
}

func (m *maker) spoilSet(f *api.Fn) {
	var l []*api.Stmt
	for _, x := range allOf[api.Stmt](f) {
		if x.K == api.StLet || x.K == api.StSet {
			l = append(l, x)
		}
	}
	if len(l) == 0 {
		return
	}
	v := &l[m.roll(len(l))].Rv
	switch m.roll(7) {
	case 0:
		v.K = api.RvKind(m.roll(16))
	case 1:
		v.K, v.Ops = []api.RvKind{-1, 16}[m.roll(2)], nil
	case 2:
		v.Ops = v.Ops[:max(0, len(v.Ops)-1)]
	case 3:
		v.Ops = append(slices.Clone(v.Ops), m.number())
	case 4:
		v.Name = m.pick("P", "S", "E", "F", "g", "h", "f", "Nowhere")
	case 5:
		v.Variant = m.pick("A", "B", "G", "Nowhere")
	case 6:
		*v = l[m.roll(len(l))].Rv
	}
}

func (m *maker) spoilName(f *api.Fn) {
	var l []*api.Stmt
	for _, x := range allOf[api.Stmt](f) {
		if x.K == api.StLet {
			l = append(l, x)
		}
	}
	if len(l) == 0 {
		return
	}
	if x := l[m.roll(len(l))]; m.roll(3) == 0 {
		x.Name = m.name()
	} else {
		x.Ty = m.odd()
	}
}

func (m *maker) spoilRow(f *api.Fn) {
	rows := allOf[[]api.Stmt](f)
	row := rows[m.roll(len(rows))]
	from := rows[m.roll(len(rows))]
	if len(*row) == 0 || len(*from) == 0 {
		return
	}
	i := m.roll(len(*row))
	switch m.roll(5) {
	case 0:
		*row = slices.Delete(slices.Clone(*row), i, i+1)
	case 1:
		one := cloned((*from)[m.roll(len(*from))])
		*row = slices.Insert(slices.Clone(*row), i, one)
	case 2:
		*row = slices.Insert(slices.Clone(*row), i, api.Stmt{K: api.StReturn, At: m.next(), Op: m.number()})
	case 3:
		j := m.roll(len(*row))
		(*row)[i], (*row)[j] = (*row)[j], (*row)[i]
	case 4:
		*row = slices.Clone((*row)[:i])
	}
}

func (m *maker) spoilMatch(f *api.Fn) {
	var l []*api.Stmt
	for _, x := range allOf[api.Stmt](f) {
		if x.K == api.StMatch && len(x.Arms) > 0 {
			l = append(l, x)
		}
	}
	if len(l) == 0 {
		m.spoilRow(f)
		return
	}
	x := l[m.roll(len(l))]
	i, j := m.roll(len(x.Arms)), m.roll(len(x.Arms))
	switch m.roll(7) {
	case 0:
		x.Arms = slices.Delete(slices.Clone(x.Arms), i, i+1)
	case 1:
		x.Arms[i], x.Arms[j] = x.Arms[j], x.Arms[i]
	case 2:
		x.Arms[i].Variant = m.pick("A", "G", "Nowhere")
	case 3:
		x.Arms[i].Bind = m.name()
	case 4:
		x.Arms[i].Bind = ""
	case 5:
		x.Arms = append(slices.Clone(x.Arms), cloned(x.Arms[j]))
	case 6:
		x.P.Name = m.name()
	}
}

// spoilKind changes the kind of a statement, to one that has an operand, or to one that has blocks, too.
func (m *maker) spoilKind(f *api.Fn) {
	x := oneOf[api.Stmt](m.dice, f)
	x.At = m.roll(2 * m.at)
	switch m.roll(3) {
	case 0:
		x.K, x.Then, x.Else, x.Arms = []api.StKind{api.StYield, api.StReturn, api.StPrint}[m.roll(3)], nil, nil, nil
	case 1:
		if x.K == api.StIf {
			x.K, x.Else = api.StWhile, nil
		} else if x.K == api.StWhile {
			x.K = api.StIf
		}
	}
}
