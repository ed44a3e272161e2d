package mir

import (
	"cocoon/api"
	"cocoon/kinds"
	"cocoon/types"
)

// value is a value's type. What is wrong with it is told in this order: Which, Tag, the kind, S, the uses.
func (w *view) value(v api.Value) (api.Ty, api.Errno) {
	for _, look := range [...]func(api.Value) api.Errno{w.which, w.tag, kind} {
		if err := look(v); err != api.OK {
			return api.Ty{}, err
		}
	}
	t, err := w.made(v)
	if err != api.OK {
		return api.Ty{}, err
	}
	return t, api.OK
}

// which looks for the item that a value is made by.
func (w *view) which(v api.Value) api.Errno {
	switch v.K {
	case api.RvMake:
		return found(v.Which, len(w.source.Structs), api.ErrUnknown)
	case api.RvVariant:
		return found(v.Which, len(w.source.Enums), api.ErrUnknown)
	case api.RvStart:
		return found(v.Which, len(w.source.Fns), api.ErrUnknown)
	}
	return found(v.Which, 1, api.ErrType)
}

// tag looks for the variant that a value is of; its enum is there.
func (w *view) tag(v api.Value) api.Errno {
	if v.K == api.RvVariant {
		return found(v.Tag, len(w.source.Enums[v.Which].Variants), api.ErrVariant)
	}
	return found(v.Tag, 1, api.ErrType)
}

// found tells an error, if a number is no place in a list that is so long.
func found(n, long int, err api.Errno) api.Errno {
	if isPlace(n, long) {
		return api.OK
	}
	return err
}

// kind looks at what a value is: what a block may end with is none.
func kind(v api.Value) api.Errno {
	if v.K < api.RvUse || v.K >= api.RvAwait {
		return api.ErrType
	}
	return api.OK
}

// made is what a value makes, of its spot or of its uses.
func (w *view) made(v api.Value) (api.Ty, api.Errno) {
	if !hasSpot(v.K) {
		if !isNoSpot(v.S) {
			return api.Ty{}, api.ErrPlace
		}
		return w.ofUses(v)
	}
	t, err := w.ofSpot(v)
	if err == api.OK {
		err = w.uses(v.Uses, 0, nil)
	}
	return t, err
}

func (w *view) ofSpot(v api.Value) (api.Ty, api.Errno) {
	t, shared, err := w.spot(v.S)
	switch {
	case err != api.OK:
		return t, err
	case v.K == api.RvUnbox:
		return unboxed(t, v.S)
	case kinds.Holds(t):
		return t, api.ErrHold
	case v.K == api.RvRef:
		return api.Ty{K: api.TyRef, L: []api.Ty{t}}, api.OK
	case shared:
		return t, api.ErrPlace
	}
	return api.Ty{K: api.TyMut, L: []api.Ty{t}}, api.OK
}

func unboxed(t api.Ty, x api.Spot) (api.Ty, api.Errno) {
	if len(x.Path) > 0 {
		return t, api.ErrPlace
	}
	if t.K != api.TyBox || !isAddress(t) {
		return t, api.ErrType
	}
	return t.L[0], api.OK
}

func (w *view) ofUses(v api.Value) (api.Ty, api.Errno) {
	switch v.K {
	case api.RvUse, api.RvBox:
		return w.ofOne(v)
	case api.RvMake:
		x := w.source.Structs[v.Which]
		return api.Ty{K: api.TyStruct, Name: x.Name}, w.handed(v.Uses, x.Fields)
	case api.RvVariant:
		x := w.source.Enums[v.Which]
		return api.Ty{K: api.TyEnum, Name: x.Name}, w.handed(v.Uses, held(x.Variants[v.Tag]))
	case api.RvStart:
		x := w.source.Fns[v.Which]
		return api.Ty{K: api.TyCo, Name: x.Name}, w.handed(v.Uses, x.Params)
	}
	return number(), w.uses(v.Uses, 2, func(_ int, t api.Ty) bool { return isNumber(t) })
}

// ofOne is of a use of any type.
func (w *view) ofOne(v api.Value) (api.Ty, api.Errno) {
	var t api.Ty
	err := w.uses(v.Uses, 1, func(_ int, is api.Ty) bool {
		t = is
		return true
	})
	if v.K == api.RvUse || err != api.OK {
		return t, err
	}
	if kinds.Holds(t) {
		return t, api.ErrHold
	}
	return api.Ty{K: api.TyBox, L: []api.Ty{t}}, api.OK
}

// handed looks at uses that are handed to fields.
func (w *view) handed(l []api.Use, fields []api.Field) api.Errno {
	return w.uses(l, len(fields), func(i int, t api.Ty) bool { return w.isOf(t, fields[i].Ty) })
}

// uses looks at so many uses, of types that fit where they stand: all of one is told ahead of the next one.
func (w *view) uses(l []api.Use, n int, fits func(int, api.Ty) bool) api.Errno {
	if len(l) != n {
		return api.ErrCount
	}
	for i, u := range l {
		t, err := w.use(u)
		if err != api.OK {
			return err
		}
		if !fits(i, t) {
			return api.ErrType
		}
	}
	return api.OK
}

// isOf tells whether a type is one that was declared.
func (w *view) isOf(t, declared api.Ty) bool {
	u, err := kinds.Resolve(w.source, declared)
	return err == api.OK && types.Same(t, u)
}

// held is what a variant holds, if it holds something.
func held(v api.Variant) []api.Field {
	if v.Ty.K == api.TyUnit {
		return nil
	}
	return []api.Field{api.Field(v)}
}
