package check

import (
	"slices"

	"cocoon/api"
	"cocoon/kinds"
	"cocoon/types"
)

// scope is from where a source is looked at.
type scope struct {
	source api.Source
	known  []api.Local
	at     int // of the statement that is looked at
}

// need ends all looking by an error, if something is not so.
func (c *scope) need(so bool, err api.Errno) {
	if !so {
		panic(fault{err, c.at})
	}
}

// place is the type of what stands at a place, and whether it is reached through a shared reference.
func (c *scope) place(p api.Place) (api.Ty, bool) {
	t, shared := c.named(p.Name), false
	for _, step := range p.Path {
		if step.Field != "" {
			t = c.field(t, step.Field)
			continue
		}
		shared = shared || t.K == api.TyRef
		t = c.behind(t)
	}
	return t, shared
}

// named is the type of the last name of those that are alike.
func (c *scope) named(name string) api.Ty {
	for _, x := range slices.Backward(c.known) {
		if x.Name == name {
			return types.Copied(x.Ty)
		}
	}
	c.need(false, api.ErrUnknown)
	return api.Ty{}
}

func (c *scope) field(t api.Ty, name string) api.Ty {
	s := kinds.StructOf(c.source, t.Name)
	c.need(t.K == api.TyStruct && s >= 0, api.ErrPlace)
	l := c.source.Structs[s].Fields
	i := slices.IndexFunc(l, func(f api.Field) bool { return f.Name == name })
	c.need(i >= 0, api.ErrPlace)
	in, err := kinds.Resolve(c.source, l[i].Ty)
	c.need(err == api.OK, api.ErrPlace)
	return in
}

// behind is what a box, or a reference, is the address of.
func (c *scope) behind(t api.Ty) api.Ty {
	c.need(isAddress(t) && len(t.L) > 0, api.ErrPlace)
	return t.L[0]
}

func (c *scope) oper(o api.Oper) api.Ty {
	if o.Num {
		return number()
	}
	t, _ := c.place(o.P)
	c.need(len(o.P.Path) == 0 || kinds.Copies(t), api.ErrMove)
	return t
}

func number() api.Ty { return api.Ty{K: api.TyInt} }

func isAddress(t api.Ty) bool {
	return t.K == api.TyBox || t.K == api.TyRef || t.K == api.TyMut
}
