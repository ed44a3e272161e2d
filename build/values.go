package build

import (
	"slices"

	"cocoon/api"
	"cocoon/kinds"
)

// set builds what makes a spot another value: a step, or, where something is waited for, an end.
func (b *builder) set(to api.Spot, v api.Rv) {
	switch v.K {
	case api.RvAwait:
		b.goOn(api.Tm{K: api.TmAwait, S: to, V: b.named(v.P)})
	case api.RvPoll:
		b.goOn(api.Tm{K: api.TmPoll, S: to, V: b.named(v.P)})
	case api.RvWait:
		b.goOn(api.Tm{K: api.TmWait, S: to, U: b.use(v.Ops[0])})
	default:
		b.step(api.In{K: api.InSet, S: to, V: b.value(v)})
	}
}

// named is a value that is but the local of a name.
func (b *builder) named(p api.Place) api.Value {
	return api.Value{S: api.Spot{Local: b.locals[p.Name]}}
}

func (b *builder) value(v api.Rv) api.Value {
	x := api.Value{K: v.K}
	for _, o := range v.Ops {
		x.Uses = append(x.Uses, b.use(o))
	}
	switch v.K {
	case api.RvRef, api.RvMut, api.RvUnbox:
		x.S, _ = b.spot(v.P)
	case api.RvMake:
		x.Which = kinds.StructOf(b.source, v.Name)
	case api.RvVariant:
		x.Which = kinds.EnumOf(b.source, v.Name)
		isIt := func(y api.Variant) bool { return y.Name == v.Variant }
		x.Tag = slices.IndexFunc(b.source.Enums[x.Which].Variants, isIt)
	case api.RvStart:
		x.Which = kinds.FnOf(b.source, v.Name)
	}
	return x
}

func (b *builder) use(o api.Oper) api.Use {
	if o.Num {
		return api.Use{Num: true, N: o.N}
	}
	x, t := b.spot(o.P)
	return api.Use{Move: !kinds.Copies(t), S: x}
}

// spot is where a place is, and the type of what stands there.
func (b *builder) spot(p api.Place) (api.Spot, api.Ty) {
	x := api.Spot{Local: b.locals[p.Name]}
	t := b.body.Locals[x.Local].Ty
	for _, step := range p.Path {
		n, in := b.into(t, step)
		x.Path = append(x.Path, n)
		t = in
	}
	return x, t
}

// into is the number of a step from a type, and the type of what it comes to. That is as it was declared, which tells no enum from a struct: both are moved, and nothing steps into an enum.
func (b *builder) into(t api.Ty, step api.Step) (int, api.Ty) {
	if step.Field == "" {
		return -1, t.L[0]
	}
	fields := b.source.Structs[kinds.StructOf(b.source, t.Name)].Fields
	n := slices.IndexFunc(fields, func(f api.Field) bool { return f.Name == step.Field })
	return n, fields[n].Ty
}
