package kinds

import (
	"slices"

	"cocoon/api"
)

// twice looks for an item whose name one ahead of it has. A name means a struct rather than an enum, as structs stand ahead of enums.
func (d items) twice() func(item) api.Errno {
	return func(x item) api.Errno {
		k := x.kind
		if k == api.TyEnum {
			k = api.TyStruct
		}
		if first, _ := d.meant(api.Ty{K: k, Name: d.name(x)}); first != x {
			return api.ErrTwice
		}
		return api.OK
	}
}

// wrong looks for a wrong part of an item.
func (d items) wrong() func(item) api.Errno {
	return func(x item) api.Errno {
		if err := d.wrongNames(x); err != api.OK {
			return err
		}
		for p := range d.parts(x) {
			if x.kind == api.TyEnum && p.Ty.K == api.TyUnit { // it holds nothing
				continue
			}
			if _, err := d.resolve(p.Ty); err != api.OK {
				return err
			}
			if Holds(p.Ty) {
				return api.ErrHold
			}
		}
		return api.OK
	}
}

func (d items) wrongNames(x item) api.Errno {
	n, names := 0, map[string]struct{}{}
	for p := range d.parts(x) {
		n++
		names[p.Name] = struct{}{}
	}
	switch {
	case len(names) < n:
		return api.ErrTwice
	case n == 0 && x.kind == api.TyEnum:
		return api.ErrVariant
	case n > api.MaxLocals:
		return api.ErrCount
	}
	return api.OK
}

// infinite looks for an item that has itself in it: it holds one of its own ring.
func (d items) infinite() func(item) api.Errno {
	ring := d.rings()
	return func(x item) api.Errno {
		for y := range d.holds(x) {
			if ring[y] == ring[x] {
				return api.ErrInfinite
			}
		}
		return api.OK
	}
}

// rings tells the number of each item's ring: those that have one another in them are of one. A ring's last item inside stands behind all rings that stand in it; so, from there on backwards, what holds an item of a ring, and is of none yet, is of the same one.
func (d items) rings() map[item]int {
	inside := d.inside(d.all())
	ring, holders := map[item]int{}, d.holders(inside)
	for n, last := range slices.Backward(inside) {
		for todo := []item{last}; len(todo) > 0; {
			x := todo[len(todo)-1]
			todo = todo[:len(todo)-1]
			if _, ok := ring[x]; !ok {
				ring[x] = n
				todo = append(todo, holders[x]...)
			}
		}
	}
	return ring
}

// holders are, of each item, those that hold it.
func (d items) holders(l []item) map[item][]item {
	m := map[item][]item{}
	for _, x := range l {
		for y := range d.holds(x) {
			m[y] = append(m[y], x)
		}
	}
	return m
}

// long looks for an item that has too many words.
func (d items) long() func(item) api.Errno {
	sizes := d.sizes(d.inside(d.all()))
	return func(x item) api.Errno {
		if sizes[x] > Most {
			return api.ErrLong
		}
		return api.OK
	}
}
