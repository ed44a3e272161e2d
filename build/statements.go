package build

import (
	"cocoon/api"
	"cocoon/check"
	"cocoon/kinds"
)

// row builds statements one by one, and tells whether they end.
func (b *builder) row(l []api.Stmt) bool {
	return b.within(func() bool {
		for i := range l {
			b.at = l[i].At
			b.stmt(&l[i])
		}
		return check.Ends(l)
	})
}

func (b *builder) stmt(x *api.Stmt) {
	switch x.K {
	case api.StLet:
		b.set(b.live(x.Name, x.Ty), x.Rv)
	case api.StSet:
		to, _ := b.spot(x.P)
		b.set(to, x.Rv)
	case api.StIf:
		b.branch(x)
	case api.StWhile:
		b.loop(x)
	case api.StMatch:
		b.match(x)
	case api.StYield:
		b.goOn(api.Tm{K: api.TmYield, U: b.use(x.Op)})
	case api.StReturn:
		b.finish(x.Op)
	case api.StPrint:
		b.step(api.In{K: api.InPrint, U: b.use(x.Op)})
	case api.StDrop:
		dropped := api.Spot{Local: b.locals[x.P.Name]}
		b.step(api.In{K: api.InDrop, S: dropped, U: api.Use{Move: true, S: dropped}})
	}
}

func (b *builder) branch(x *api.Stmt) {
	rows := [...][]api.Stmt{x.Then, x.Else}
	ways := b.part(api.Tm{K: api.TmIf, U: b.use(x.Op)}, len(rows))
	b.meet(ways, func(way int) bool { return b.row(rows[way]) })
}

func (b *builder) loop(x *api.Stmt) {
	b.goOn(api.Tm{K: api.TmGoto})
	head := b.block
	ways := b.part(api.Tm{K: api.TmIf, U: b.use(x.Op)}, 2)
	b.block = ways[0]
	if !b.row(x.Then) {
		b.end(api.Tm{K: api.TmGoto, To: []int{head}})
	}
	b.block = ways[1]
}

func (b *builder) match(x *api.Stmt) {
	n := b.locals[x.P.Name]
	variants := b.source.Enums[kinds.EnumOf(b.source, b.body.Locals[n].Ty.Name)].Variants
	ways := b.part(api.Tm{K: api.TmMatch, S: api.Spot{Local: n}}, len(variants))
	b.meet(ways, func(way int) bool {
		return b.within(func() bool {
			b.open(n, way, x.Arms[way].Bind, variants[way].Ty)
			return b.row(x.Arms[way].Body)
		})
	})
}

// open moves what a variant of a local holds to where it has a name.
func (b *builder) open(n, tag int, name string, held api.Ty) {
	to := api.Spot{Local: -1}
	if name != "" {
		to = b.live(name, held)
	}
	b.step(api.In{K: api.InOpen, S: api.Spot{Local: n}, V: api.Value{Tag: tag, S: to}})
}

// finish returns an operand; it is reckoned ahead of leaving what it may be of.
func (b *builder) finish(o api.Oper) {
	result := api.Spot{Local: b.result}
	b.set(result, api.Rv{K: api.RvUse, Ops: []api.Oper{o}})
	b.leave(0)
	b.end(api.Tm{K: api.TmReturn, U: api.Use{S: result}})
}
