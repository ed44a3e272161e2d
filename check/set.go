package check

import (
	"slices"

	"cocoon/api"
	"cocoon/kinds"
	"cocoon/types"
)

// set is the type of what is set.
func (c *scope) set(v api.Rv) api.Ty {
	switch v.K {
	case api.RvUse:
		return c.opers(v.Ops, 1)[0]
	case api.RvAdd, api.RvSub, api.RvMul, api.RvLess, api.RvSame:
		return c.reckoned(c.opers(v.Ops, 2)...)
	case api.RvWait:
		return c.reckoned(c.opers(v.Ops, 1)...)
	case api.RvRef, api.RvMut:
		return c.lent(v)
	case api.RvBox:
		t := c.opers(v.Ops, 1)[0]
		c.need(!kinds.Holds(t), api.ErrHold)
		return api.Ty{K: api.TyBox, L: []api.Ty{t}}
	case api.RvUnbox:
		t := c.alone(v.P, api.TyBox)
		c.need(len(t.L) > 0, api.ErrType)
		return t.L[0]
	case api.RvAwait, api.RvPoll:
		c.alone(v.P, api.TyCo)
		return number()
	case api.RvMake, api.RvVariant, api.RvStart:
		return c.made(v)
	}
	c.opers(v.Ops, len(v.Ops)) // an operand's error is told ahead of the kind's
	c.need(false, api.ErrType)
	return api.Ty{}
}

// opers are the types of so many operands.
func (c *scope) opers(l []api.Oper, n int) []api.Ty {
	c.need(len(l) == n, api.ErrCount)
	var all []api.Ty
	for _, o := range l {
		all = append(all, c.oper(o))
	}
	return all
}

// reckoned is an int of operands that are ints.
func (c *scope) reckoned(l ...api.Ty) api.Ty {
	for _, t := range l {
		c.need(t.K == api.TyInt, api.ErrType)
	}
	return number()
}

// lent is a reference to a place.
func (c *scope) lent(v api.Rv) api.Ty {
	t, shared := c.place(v.P)
	c.need(!kinds.Holds(t), api.ErrHold)
	if v.K == api.RvRef {
		return api.Ty{K: api.TyRef, L: []api.Ty{t}}
	}
	c.need(!shared, api.ErrPlace)
	return api.Ty{K: api.TyMut, L: []api.Ty{t}}
}

// alone is the type of a name that stands without steps, and is of a kind.
func (c *scope) alone(p api.Place, k api.TyKind) api.Ty {
	c.need(len(p.Path) == 0, api.ErrPlace)
	t := c.named(p.Name)
	c.need(t.K == k, api.ErrType)
	return t
}

// made is what is made of operands by a name: a struct, an enum, or a coroutine.
func (c *scope) made(v api.Rv) api.Ty {
	s := &c.source
	switch v.K {
	case api.RvMake:
		i := kinds.StructOf(*s, v.Name)
		c.need(i >= 0, api.ErrUnknown)
		c.handed(v.Ops, fieldTypes(s.Structs[i].Fields)...)
		return api.Ty{K: api.TyStruct, Name: v.Name}
	case api.RvVariant:
		i := kinds.EnumOf(*s, v.Name)
		c.need(i >= 0, api.ErrUnknown)
		l := s.Enums[i].Variants
		j := slices.IndexFunc(l, func(x api.Variant) bool { return x.Name == v.Variant })
		c.need(j >= 0, api.ErrVariant)
		c.handed(v.Ops, held(l[j])...)
		return api.Ty{K: api.TyEnum, Name: v.Name}
	}
	i := kinds.FnOf(*s, v.Name)
	c.need(i >= 0, api.ErrUnknown)
	c.handed(v.Ops, fieldTypes(s.Fns[i].Params)...)
	return api.Ty{K: api.TyCo, Name: v.Name}
}

// handed looks at operands for which there are types that are wanted: all of one is told ahead of the next one.
func (c *scope) handed(l []api.Oper, wanted ...api.Ty) {
	c.need(len(l) == len(wanted), api.ErrCount)
	for i, o := range l {
		t := c.oper(o)
		want, err := kinds.Resolve(c.source, wanted[i])
		c.need(err == api.OK && types.Same(t, want), api.ErrType)
	}
}

func fieldTypes(l []api.Field) []api.Ty {
	var all []api.Ty
	for _, f := range l {
		all = append(all, f.Ty)
	}
	return all
}

// held is the type of what a variant holds, if it holds something.
func held(v api.Variant) []api.Ty {
	if v.Ty.K == api.TyUnit {
		return nil
	}
	return []api.Ty{v.Ty}
}
