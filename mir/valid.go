package mir

import (
	"slices"

	"cocoon/api"
	"cocoon/kinds"
	"cocoon/types"
)

// all tells whether each thing of a list is valid.
func all[T any](things []T, valid func(T) bool) bool {
	return !slices.ContainsFunc(things, func(x T) bool { return !valid(x) })
}

// locals looks at all of them; without any there would be no result, which stands last.
func (w *view) locals() bool {
	l := w.body.Locals
	if len(l) == 0 || len(l) > api.MaxLocals+1 || !isPlace(w.body.Params, len(l)) {
		return false
	}
	result := l[len(l)-1]
	return result.Name == "" && isNumber(result.Ty) && all(l, w.local)
}

func (w *view) local(x api.Local) bool {
	return w.isOf(x.Ty, x.Ty) && !slices.ContainsFunc(x.Ty.L, kinds.Holds)
}

func (w *view) block(x api.Block) bool {
	return all(x.Ins, w.step) && w.end(x.End)
}

func (w *view) step(x api.In) bool {
	switch x.K {
	case api.InLive, api.InDead:
		return w.isNamed(x.S) && isNoValue(x.V) && isNoUse(x.U)
	case api.InSet:
		return w.sets(x.S, x.V) && isNoUse(x.U)
	case api.InDrop:
		return w.isNamed(x.S) && isNoValue(x.V) && (isNoUse(x.U) || isMoveOf(x.U, x.S.Local))
	case api.InPrint:
		return isNoSpot(x.S) && isNoValue(x.V) && w.isNumberUse(x.U)
	case api.InOpen:
		return w.opens(x.S, x.V) && isNoUse(x.U)
	}
	return false
}

// isNamed tells whether a spot is a local that has a name: not the result.
func (w *view) isNamed(x api.Spot) bool {
	return isPlace(x.Local, len(w.body.Locals)-1) && len(x.Path) == 0
}

func (w *view) sets(x api.Spot, v api.Value) bool {
	if len(x.Path) > 0 && !w.isSettable(x) {
		return false
	}
	t, _, err := w.spot(x)
	made, wrong := w.value(v)
	return err == api.OK && wrong == api.OK && types.Same(made, t)
}

// isSettable tells whether a number stands at a spot, that may be another one.
func (w *view) isSettable(x api.Spot) bool {
	t, shared, err := w.spot(x)
	return err == api.OK && isNumber(t) && !shared
}

// isMoveOf tells whether a use moves a local away.
func isMoveOf(u api.Use, local int) bool {
	return !u.Num && u.N == 0 && u.Move && u.S.Local == local && len(u.S.Path) == 0
}

func (w *view) isNumberUse(u api.Use) bool {
	t, err := w.use(u)
	return err == api.OK && isNumber(t)
}

// opens tells whether a spot is an enum, of which a value tells a variant, and where what that holds comes to.
func (w *view) opens(x api.Spot, v api.Value) bool {
	variants, ok := w.enum(x)
	if !ok || !isPlace(v.Tag, len(variants)) || !w.holds(v.S, variants[v.Tag].Ty) {
		return false
	}
	v.Tag, v.S = 0, api.Spot{}
	return isNoValue(v)
}

// holds tells whether what a variant holds may come to a spot.
func (w *view) holds(x api.Spot, held api.Ty) bool {
	if held.K == api.TyUnit {
		return x.Local == -1 && len(x.Path) == 0
	}
	t, ok := w.alone(x)
	return ok && w.isOf(t, held)
}

// enum are the variants of the enum that a local is of; false, if it is of none, or has steps. That the enum is there was seen where the locals were looked at.
func (w *view) enum(x api.Spot) ([]api.Variant, bool) {
	t, ok := w.alone(x)
	if !ok || t.K != api.TyEnum {
		return nil, false
	}
	return w.source.Enums[kinds.EnumOf(w.source, t.Name)].Variants, true
}

func (w *view) end(x api.Tm) bool {
	isBlock := func(n int) bool { return isPlace(n, len(w.body.Blocks)) }
	ways, ok := w.ways(x)
	return ok && len(x.To) == ways && all(x.To, isBlock)
}

// ways is to how many blocks an end goes; false, if it can't be.
func (w *view) ways(x api.Tm) (int, bool) {
	switch x.K {
	case api.TmGoto:
		return 1, isNoSpot(x.S) && isNoValue(x.V) && isNoUse(x.U)
	case api.TmIf:
		return 2, isNoSpot(x.S) && isNoValue(x.V) && w.isNumberUse(x.U)
	case api.TmMatch:
		variants, ok := w.enum(x.S)
		return len(variants), ok && isNoValue(x.V) && isNoUse(x.U)
	case api.TmReturn:
		return 0, isNoSpot(x.S) && isNoValue(x.V) && w.isNumberUse(x.U)
	case api.TmYield:
		return 1, isNoSpot(x.S) && isNoValue(x.V) && w.isNumberUse(x.U)
	case api.TmAwait, api.TmPoll:
		return 1, w.isSettable(x.S) && w.goesOnWith(x.V) && isNoUse(x.U)
	case api.TmWait:
		return 1, w.isSettable(x.S) && isNoValue(x.V) && w.isNumberUse(x.U)
	}
	return 0, false
}

// goesOnWith tells whether a value is but a coroutine at its spot.
func (w *view) goesOnWith(v api.Value) bool {
	t, ok := w.alone(v.S)
	v.S = api.Spot{}
	return ok && t.K == api.TyCo && isNoValue(v)
}

func isNoUse(u api.Use) bool {
	return !u.Num && u.N == 0 && !u.Move && isNoSpot(u.S)
}

func isNoValue(v api.Value) bool {
	return v.K == api.RvUse && len(v.Uses) == 0 && isNoSpot(v.S) && v.Which == 0 && v.Tag == 0
}
