package build_test

import (
	"slices"
	"strings"

	"cocoon/api"
	"cocoon/check"
	"cocoon/kinds"
	"cocoon/tree"
)

// model tells a coroutine's body line by line, by the chapter's sentences as they stand there.
type model struct {
	api.Source
	made   []api.Local // so far
	blocks [][]string
}

// the is what stands for the result, as long as it is not known how many locals there are.
const the = "RESULT"

// gone is in place of a block where a row ended.
const gone = -1

// modelOf is a body's text with places, as told tells it.
func modelOf(s api.Source, fn int) string {
	f := s.Fns[fn]
	m := model{Source: s}
	var held []int
	for _, p := range f.Params {
		held = append(held, m.local(p.Name, p.Ty))
	}
	m.row(f.Body, m.block(), f.At, held)
	l := []string{f.Name + " " + itoa(len(f.Params))}
	m.made = append(m.made, api.Local{Ty: api.Ty{K: api.TyInt}})
	for i, x := range m.made {
		l = append(l, "\t"+itoa(i)+" "+x.Name+" "+tree.Type(x.Ty))
	}
	for i, x := range m.blocks {
		l = append(l, "block "+itoa(i))
		l = append(l, x...)
	}
	return strings.ReplaceAll(strings.Join(l, "\n")+"\n", the, itoa(len(m.made)-1))
}

func (m *model) block() int {
	m.blocks = append(m.blocks, nil)
	return len(m.blocks) - 1
}

// line adds one to a block.
func (m *model) line(block, at int, words ...string) {
	m.blocks[block] = append(m.blocks[block], "\t"+strings.Join(words, " ")+" @"+itoa(at))
}

func (m *model) local(name string, t api.Ty) int {
	t, _ = kinds.Resolve(m.Source, t)
	m.made = append(m.made, api.Local{Name: name, Ty: t})
	return len(m.made) - 1
}

// drops goes into structs and enums; what is checked has an end.
func (m *model) drops(t api.Ty) bool {
	if t.K == api.TyBox || t.K == api.TyCo {
		return true
	}
	for _, x := range m.Structs {
		if t.K == api.TyStruct && x.Name == t.Name {
			return x.Drop || slices.ContainsFunc(x.Fields, func(f api.Field) bool { return m.drops(f.Ty) })
		}
	}
	for _, x := range m.Enums {
		if (t.K == api.TyStruct || t.K == api.TyEnum) && x.Name == t.Name {
			return slices.ContainsFunc(x.Variants, func(v api.Variant) bool { return m.drops(v.Ty) })
		}
	}
	return false
}

func (m *model) left(block, at int, held []int) {
	for i := len(held) - 1; i >= 0; i-- {
		if m.drops(m.made[held[i]].Ty) {
			m.line(block, at, "end", itoa(held[i]))
		}
		m.line(block, at, "dead", itoa(held[i]))
	}
}

// row is built from a block on; it tells in which one it came to its end, or that it ended.
func (m *model) row(l []api.Stmt, block, at int, held []int) int {
	mine := slices.Clone(held)
	for i := range l {
		if l[i].K == api.StLet {
			mine = append(mine, len(m.made))
		}
		block = m.stmt(&l[i], block, mine)
	}
	if block != gone {
		m.left(block, at, mine[len(held):])
	}
	return block
}

func (m *model) stmt(x *api.Stmt, block int, held []int) int {
	switch x.K {
	case api.StLet:
		n := m.local(x.Name, x.Ty)
		m.line(block, x.At, "live", itoa(n))
		return m.set(block, x.At, itoa(n), x.Rv)
	case api.StSet:
		return m.set(block, x.At, m.spot(x.P), x.Rv)
	case api.StIf:
		one, other := m.block(), m.block()
		m.line(block, x.At, "if", m.use(x.Op), itoa(one), itoa(other))
		one = m.row(x.Then, one, x.At, held)
		other = m.row(x.Else, other, x.At, held)
		return m.together(x.At, one, other)
	case api.StWhile:
		head := m.block()
		m.line(block, x.At, "goto", itoa(head))
		inside, behind := m.block(), m.block()
		m.line(head, x.At, "if", m.use(x.Op), itoa(inside), itoa(behind))
		if inside = m.row(x.Then, inside, x.At, held); inside != gone {
			m.line(inside, x.At, "goto", itoa(head))
		}
		return behind
	case api.StMatch:
		return m.match(x, block, held)
	case api.StYield:
		next := m.block()
		m.line(block, x.At, "yield", m.use(x.Op), itoa(next))
		return next
	case api.StReturn:
		m.line(block, x.At, "set", the, "= 0 0 0", m.use(x.Op))
		m.left(block, x.At, held)
		m.line(block, x.At, "return copy", the)
		return gone
	case api.StPrint:
		m.line(block, x.At, "print", m.use(x.Op))
	case api.StDrop:
		m.line(block, x.At, "drop", m.spot(x.P))
	}
	return block
}

// together are blocks from where those that did not end go on in one.
func (m *model) together(at int, blocks ...int) int {
	blocks = slices.DeleteFunc(blocks, func(n int) bool { return n == gone })
	if len(blocks) == 0 {
		return gone
	}
	next := m.block()
	for _, n := range blocks {
		m.line(n, at, "goto", itoa(next))
	}
	return next
}

func (m *model) match(x *api.Stmt, block int, held []int) int {
	words := []string{"match", m.spot(x.P)}
	var blocks []int
	for range x.Arms {
		n := m.block()
		blocks = append(blocks, n)
		words = append(words, itoa(n))
	}
	e, _, _ := check.Place(m.Source, m.made, x.P)
	m.line(block, x.At, words...)
	for i, a := range x.Arms {
		mine, to := slices.Clone(held), "-1"
		if a.Bind != "" {
			n := m.local(a.Bind, m.Enums[kinds.EnumOf(m.Source, e.Name)].Variants[i].Ty)
			mine, to = append(mine, n), itoa(n)
			m.line(blocks[i], x.At, "live", to)
		}
		m.line(blocks[i], x.At, "open", m.spot(x.P), itoa(i), to)
		if blocks[i] = m.row(a.Body, blocks[i], x.At, mine); blocks[i] != gone {
			m.left(blocks[i], x.At, mine[len(held):])
		}
	}
	return m.together(x.At, blocks...)
}

func (m *model) set(block, at int, to string, v api.Rv) int {
	var words []string
	switch v.K {
	case api.RvAwait:
		words = []string{"await", to, m.spot(v.P)}
	case api.RvPoll:
		words = []string{"poll", to, m.spot(v.P)}
	case api.RvWait:
		words = []string{"wait", to, m.use(v.Ops[0])}
	default:
		m.line(block, at, "set", to, "=", m.value(v))
		return block
	}
	next := m.block()
	m.line(block, at, append(words, itoa(next))...)
	return next
}

func (m *model) value(v api.Rv) string {
	which, tag := 0, 0
	for i, x := range m.Structs {
		if v.K == api.RvMake && x.Name == v.Name {
			which = i
		}
	}
	for i, x := range m.Enums {
		if v.K == api.RvVariant && x.Name == v.Name {
			which, tag = i, slices.IndexFunc(x.Variants, func(y api.Variant) bool { return y.Name == v.Variant })
		}
	}
	for i, x := range m.Fns {
		if v.K == api.RvStart && x.Name == v.Name {
			which = i
		}
	}
	words := []string{itoa(int(v.K)), itoa(which), itoa(tag)}
	for _, o := range v.Ops {
		words = append(words, m.use(o))
	}
	if v.P.Name != "" {
		words = append(words, m.spot(v.P))
	}
	return strings.Join(words, " ")
}

func (m *model) use(o api.Oper) string {
	if o.Num {
		return "#" + itoa(o.N)
	}
	t, _, _ := check.Place(m.Source, m.made, o.P)
	if t.K == api.TyInt || t.K == api.TyRef {
		return "copy " + m.spot(o.P)
	}
	return "move " + m.spot(o.P)
}

// spot asks of each step what stands ahead of it.
func (m *model) spot(p api.Place) string {
	n := 0
	for i, x := range m.made {
		if x.Name == p.Name {
			n = i
		}
	}
	words := []string{itoa(n)}
	for i, step := range p.Path {
		if step.Field == "" {
			words = append(words, "-1")
			continue
		}
		t, _, _ := check.Place(m.Source, m.made, api.Place{Name: p.Name, Path: p.Path[:i]})
		for _, x := range m.Structs {
			if x.Name == t.Name {
				words = append(words, itoa(slices.IndexFunc(x.Fields, func(f api.Field) bool { return f.Name == step.Field })))
			}
		}
	}
	return strings.Join(words, ".")
}
