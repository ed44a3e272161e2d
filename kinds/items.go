package kinds

import (
	"iter"
	"slices"

	"cocoon/api"
)

// item is a struct, an enum or a coroutine: its place among those of its kind.
type item struct {
	kind  api.TyKind
	place int
}

// named is what an item is asked for by.
type named struct {
	kind api.TyKind
	name string
}

// items are those of a source. What is asked for by a name is the first one that has it: its place, or -1.
type items struct {
	api.Source
	place func(named) int
}

// searched is for few names: each one is looked for anew.
func searched(s api.Source) items {
	return items{s, func(n named) int {
		switch n.kind {
		case api.TyStruct:
			return StructOf(s, n.name)
		case api.TyEnum:
			return EnumOf(s, n.name)
		case api.TyCo:
			return FnOf(s, n.name)
		}
		return -1
	}}
}

// few is for how many names it is not worth while to make an index.
const few = 8

// indexed is for many names. Most types have few, so the index is not made until more are asked for.
func indexed(s api.Source) items {
	var index map[named]int
	asked, search := 0, searched(s).place
	return items{s, func(n named) int {
		asked++
		if asked <= few {
			return search(n)
		}
		if index == nil {
			index = firsts(s)
		}
		if place, ok := index[n]; ok {
			return place
		}
		return -1
	}}
}

func firsts(s api.Source) map[named]int {
	d := items{Source: s}
	m := map[named]int{}
	for _, x := range slices.Backward(d.all()) {
		m[named{x.kind, d.name(x)}] = x.place
	}
	return m
}

// all are first the structs, then the enums, then the coroutines.
func (d items) all() []item {
	var l []item
	add := func(k api.TyKind, n int) {
		for i := range n {
			l = append(l, item{k, i})
		}
	}
	add(api.TyStruct, len(d.Structs))
	add(api.TyEnum, len(d.Enums))
	add(api.TyCo, len(d.Fns))
	return l
}

func (d items) name(x item) string {
	switch x.kind {
	case api.TyStruct:
		return d.Structs[x.place].Name
	case api.TyEnum:
		return d.Enums[x.place].Name
	}
	return d.Fns[x.place].Name
}

func (d items) at(x item) int {
	switch x.kind {
	case api.TyStruct:
		return d.Structs[x.place].At
	case api.TyEnum:
		return d.Enums[x.place].At
	}
	return d.Fns[x.place].At
}

// parts are the fields of a struct, the variants of an enum, the parameters of a coroutine.
func (d items) parts(x item) iter.Seq[api.Field] {
	if x.kind == api.TyEnum {
		return d.variants(x.place)
	}
	if x.kind == api.TyStruct {
		return slices.Values(d.Structs[x.place].Fields)
	}
	return slices.Values(d.Fns[x.place].Params)
}

func (d items) variants(place int) iter.Seq[api.Field] {
	return func(yield func(api.Field) bool) {
		for _, v := range d.Enums[place].Variants {
			if !yield(api.Field(v)) {
				return
			}
		}
	}
}

// holds are the items that a part of an item is of: as often as they stand there, not what is behind an address.
func (d items) holds(x item) iter.Seq[item] {
	return func(yield func(item) bool) {
		for p := range d.parts(x) {
			for _, y := range d.meantBy(p.Ty) {
				if !yield(y) {
					return
				}
			}
		}
	}
}

// meant is the item that a type has the name of; false, if there is none.
func (d items) meant(t api.Ty) (item, bool) {
	x := item{t.K, d.place(named{t.K, t.Name})}
	if t.K == api.TyStruct && x.place < 0 { // a text does not tell which of both a name is of
		x = item{api.TyEnum, d.place(named{api.TyEnum, t.Name})}
	}
	return x, x.place >= 0
}

// meantBy is the struct, or the enum, that values of a type are of; or nothing.
func (d items) meantBy(t api.Ty) []item {
	if t.K != api.TyStruct && t.K != api.TyEnum {
		return nil
	}
	if x, ok := d.meant(t); ok {
		return []item{x}
	}
	return nil
}

// visit is of an item: what it holds comes between the first one and the last one.
type visit struct {
	item
	last bool
}

// inside are some items and all that stand in them, at any depth, each once. What an item holds stands ahead of it, but for what has that item in it.
func (d items) inside(l []item) []item {
	var inner []item
	var todo []visit
	for _, x := range l {
		todo = append(todo, visit{x, false})
	}
	seen := map[item]struct{}{}
	for len(todo) > 0 {
		x := todo[len(todo)-1]
		todo = todo[:len(todo)-1]
		_, known := seen[x.item]
		switch {
		case x.last:
			inner = append(inner, x.item)
		case !known:
			seen[x.item] = struct{}{}
			todo = append(todo, visit{x.item, true})
			for y := range d.holds(x.item) {
				todo = append(todo, visit{y, false})
			}
		}
	}
	return inner
}

// owns tells whether a value of a type is the address of what ends with it.
func owns(t api.Ty) bool { return t.K == api.TyBox || t.K == api.TyCo }

// dropsItself tells whether something is to be done where an item's value ends, whatever the items in it say.
func (d items) dropsItself(x item) bool {
	if x.kind == api.TyStruct && d.Structs[x.place].Drop {
		return true
	}
	for p := range d.parts(x) {
		if owns(p.Ty) {
			return true
		}
	}
	return false
}
