package mir

import (
	"cocoon/api"
	"cocoon/kinds"
)

// view is a body, and the source that it is looked at by. The types that its methods answer may still share lists with both.
type view struct {
	source api.Source
	body   api.Body
}

// spot is the type of what stands at a spot, and whether it is reached through a shared reference.
func (w *view) spot(x api.Spot) (api.Ty, bool, api.Errno) {
	if !isPlace(x.Local, len(w.body.Locals)) {
		return api.Ty{}, false, api.ErrPlace
	}
	t, shared := w.body.Locals[x.Local].Ty, false
	for _, step := range x.Path {
		shared = shared || t.K == api.TyRef
		in, ok := w.into(t, step)
		if !ok {
			return api.Ty{}, false, api.ErrPlace
		}
		t = in
	}
	return t, shared, api.OK
}

// into is the type of what a step from a type comes to; false, if there is no such.
func (w *view) into(t api.Ty, step int) (api.Ty, bool) {
	if isAddress(t) {
		return t.L[0], step == -1
	}
	if t.K != api.TyStruct {
		return api.Ty{}, false
	}
	i := kinds.StructOf(w.source, t.Name)
	if i < 0 || !isPlace(step, len(w.source.Structs[i].Fields)) {
		return api.Ty{}, false
	}
	in, err := kinds.Resolve(w.source, w.source.Structs[i].Fields[step].Ty)
	return in, err == api.OK
}

// alone is the type of a local that stands without steps; false, if there are some, or there is no such local.
func (w *view) alone(x api.Spot) (api.Ty, bool) {
	t, _, err := w.spot(x)
	return t, err == api.OK && len(x.Path) == 0
}

// use is the type of a use that is right.
func (w *view) use(u api.Use) (api.Ty, api.Errno) {
	if u.Num {
		if u.Move || !isNoSpot(u.S) {
			return api.Ty{}, api.ErrPlace
		}
		return number(), api.OK
	}
	t, _, err := w.spot(u.S)
	if err != api.OK || u.N != 0 || u.Move == kinds.Copies(t) || u.Move && len(u.S.Path) > 0 {
		return api.Ty{}, api.ErrPlace
	}
	return t, api.OK
}

// isPlace tells whether a number is the place of something in a list that is so long.
func isPlace(n, long int) bool { return 0 <= n && n < long }

// isAddress tells whether a type is that of an address of one thing.
func isAddress(t api.Ty) bool {
	return (t.K == api.TyBox || t.K == api.TyRef || t.K == api.TyMut) && len(t.L) == 1
}

func number() api.Ty { return api.Ty{K: api.TyInt} }

func isNumber(t api.Ty) bool { return t.K == api.TyInt }

func isNoSpot(x api.Spot) bool { return x.Local == 0 && len(x.Path) == 0 }
