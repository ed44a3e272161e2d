package build

import (
	"slices"

	"cocoon/api"
	"cocoon/kinds"
)

// builder makes the body of a coroutine, block by block.
type builder struct {
	source api.Source
	body   api.Body
	drops  []bool         // of each local, whether its type drops
	locals map[string]int // by the names that were made so far
	held   []int          // locals that were made and not left yet, on the way to where the next step stands
	result int            // the last local
	block  int            // where the next step stands
	at     int            // of the statement that is built
}

// built is the body of a coroutine of a source in which nothing is wrong.
func built(s api.Source, f *api.Fn) api.Body {
	b := builder{
		source: s,
		body:   api.Body{Name: f.Name, Params: len(f.Params)},
		locals: map[string]int{},
		result: len(f.Params) + names(f.Body),
		at:     f.At,
	}
	for _, p := range f.Params {
		b.local(p.Name, p.Ty)
	}
	b.block = b.fresh()
	b.row(f.Body)
	b.body.Locals = append(b.body.Locals, api.Local{Ty: api.Ty{K: api.TyInt}})
	return b.body
}

// names are how many a row makes, at any depth: a return tells the local behind all of them, though some are made behind that.
func names(l []api.Stmt) int {
	n := 0
	for i := range l {
		x := &l[i]
		if x.K == api.StLet {
			n++
		}
		n += names(x.Then) + names(x.Else)
		for _, a := range x.Arms {
			if a.Bind != "" {
				n++
			}
			n += names(a.Body)
		}
	}
	return n
}

// local makes one.
func (b *builder) local(name string, t api.Ty) int {
	t, _ = kinds.Resolve(b.source, t)
	n := len(b.body.Locals)
	b.body.Locals = append(b.body.Locals, api.Local{Name: name, Ty: t})
	b.drops = append(b.drops, kinds.Drops(b.source, t))
	b.locals[name] = n
	b.held = append(b.held, n)
	return n
}

// live makes a local that begins here.
func (b *builder) live(name string, t api.Ty) api.Spot {
	x := api.Spot{Local: b.local(name, t)}
	b.step(api.In{K: api.InLive, S: x})
	return x
}

// leave leaves the locals that are held, but for so many that were made first. They are still held: another way may come to where they were made, and not through here.
func (b *builder) leave(first int) {
	for _, n := range slices.Backward(b.held[first:]) {
		x := api.Spot{Local: n}
		if b.drops[n] {
			b.step(api.In{K: api.InDrop, S: x})
		}
		b.step(api.In{K: api.InDead, S: x})
	}
}

// within builds what tells whether it ended. What that made is not held behind it: where it ended, all was left there.
func (b *builder) within(build func() bool) bool {
	first, at := len(b.held), b.at
	ended := build()
	b.at = at
	if !ended {
		b.leave(first)
	}
	b.held = b.held[:first]
	return ended
}

func (b *builder) step(x api.In) {
	x.At = b.at
	in := &b.body.Blocks[b.block]
	in.Ins = append(in.Ins, x)
}

func (b *builder) end(x api.Tm) {
	x.At = b.at
	b.body.Blocks[b.block].End = x
}

// fresh makes a block.
func (b *builder) fresh() int {
	b.body.Blocks = append(b.body.Blocks, api.Block{})
	return len(b.body.Blocks) - 1
}

// goOn ends the block, and goes on in a new one.
func (b *builder) goOn(x api.Tm) {
	next := b.fresh()
	x.To = []int{next}
	b.end(x)
	b.block = next
}

// part ends the block, from where so many new ones go on.
func (b *builder) part(x api.Tm, ways int) []int {
	for range ways {
		x.To = append(x.To, b.fresh())
	}
	b.end(x)
	return x.To
}

// meet builds in each block what tells whether it ended. Those that did not go on together, in a new one.
func (b *builder) meet(blocks []int, build func(way int) bool) {
	var open []int
	for way, block := range blocks {
		b.block = block
		if !build(way) {
			open = append(open, b.block)
		}
	}
	if len(open) == 0 {
		return
	}
	next := b.fresh()
	for _, block := range open {
		b.block = block
		b.end(api.Tm{K: api.TmGoto, To: []int{next}})
	}
	b.block = next
}
