package kinds

import (
	"maps"

	"cocoon/api"
)

// tooMany is what all sizes stop at.
const tooMany = Most + 1

// sizes are those of items that stand inside some (inside). Where each is behind what it holds, one look at each is enough.
func (d items) sizes(l []item) map[item]int {
	sizes := map[item]int{}
	for _, x := range l {
		for y := range d.holds(x) {
			if _, ok := sizes[y]; !ok {
				return d.rounds(l)
			}
		}
		sizes[x] = d.reckon(x, sizes)
	}
	return sizes
}

// rounds are the sizes where items stand in one another: each round goes by what the one ahead told, up to one that tells nothing new.
func (d items) rounds(l []item) map[item]int {
	sizes := map[item]int{}
	for range len(d.Structs) + len(d.Enums) {
		next := map[item]int{}
		for _, x := range l {
			next[x] = d.reckon(x, sizes)
		}
		if maps.Equal(next, sizes) {
			break
		}
		sizes = next
	}
	return sizes
}

// reckon is an item's size by those of what it holds; of a coroutine that of its parameters.
func (d items) reckon(x item, sizes map[item]int) int {
	switch x.kind {
	case api.TyStruct:
		return d.together(d.Structs[x.place].Fields, sizes)
	case api.TyCo:
		return d.together(d.Fns[x.place].Params, sizes)
	}
	most := 0
	for p := range d.parts(x) {
		most = max(most, d.words(p.Ty, sizes))
	}
	return min(1+most, tooMany)
}

// together is how many words fields have, one behind the other.
func (d items) together(l []api.Field, sizes map[item]int) int {
	n := 0
	for _, f := range l {
		n = min(n+d.words(f.Ty, sizes), tooMany)
	}
	return n
}

// words is a type's size by those of items; what is not declared has none.
func (d items) words(t api.Ty, sizes map[item]int) int {
	switch t.K {
	case api.TyUnit:
		return 0
	case api.TyStruct, api.TyEnum:
		x, _ := d.meant(t)
		return sizes[x]
	}
	return 1
}
