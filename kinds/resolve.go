package kinds

import (
	"slices"

	"cocoon/api"
	"cocoon/types"
)

// around tells whether a type of such a kind is of another one, which stands in its L.
func around(k api.TyKind) bool {
	return k == api.TyBox || k == api.TyRef || k == api.TyMut
}

// resolve goes inwards through lists of its own, so that the type that was handed in stays as it was.
func (d items) resolve(t api.Ty) (api.Ty, api.Errno) {
	in := &t
	for around(in.K) {
		if len(in.L) != 1 {
			return api.Ty{}, api.ErrType
		}
		in.L = slices.Clone(in.L)
		in = &in.L[0]
	}
	k, err := d.innermost(*in)
	if err != api.OK {
		return api.Ty{}, err
	}
	*in = types.Copied(*in)
	in.K = k
	return t, api.OK
}

// innermost is what a type that is of no other one is.
func (d items) innermost(t api.Ty) (api.TyKind, api.Errno) {
	switch t.K {
	case api.TyInt:
		return t.K, api.OK
	case api.TyStruct, api.TyEnum, api.TyCo:
		if x, ok := d.meant(t); ok {
			return x.kind, api.OK
		}
		return 0, api.ErrUnknown
	}
	return 0, api.ErrType
}
