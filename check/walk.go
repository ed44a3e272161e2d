package check

import (
	"slices"

	"cocoon/api"
	"cocoon/kinds"
	"cocoon/types"
)

// walker goes through a coroutine, statement by statement.
type walker struct {
	scope
	names map[string]struct{} // all that the coroutine had so far, whether they are known or not
}

func (w *walker) fn(f *api.Fn) {
	w.at = f.At
	for _, p := range f.Params {
		w.name(p.Name)
		w.know(p.Name, w.resolved(p.Ty))
	}
	w.row(f.Body)
	w.need(Ends(f.Body), api.ErrEnd)
}

// row goes through statements; behind them no more is known than was ahead, and what they stand in is looked at again.
func (w *walker) row(l []api.Stmt) {
	defer w.cutBack(len(w.known), w.at)
	for i := range l {
		w.at = l[i].At
		w.need(i == 0 || !Ends(l[i-1:i]), api.ErrEnd)
		w.stmt(&l[i])
	}
}

func (w *walker) cutBack(known, at int) {
	w.known, w.at = w.known[:known], at
}

func (w *walker) stmt(x *api.Stmt) {
	switch x.K {
	case api.StLet:
		w.let(x)
	case api.StSet:
		w.assign(x)
	case api.StIf, api.StWhile, api.StYield, api.StReturn, api.StPrint:
		w.reckoned(w.oper(x.Op))
		w.row(x.Then)
		w.row(x.Else)
	case api.StMatch:
		w.match(x)
	case api.StDrop:
		w.place(x.P)
	}
}

// name takes a name, that must be a new one of the coroutine.
func (w *walker) name(name string) {
	_, had := w.names[name]
	w.need(!had, api.ErrTwice)
	w.names[name] = struct{}{}
	w.need(len(w.names) <= api.MaxLocals, api.ErrCount)
}

func (w *walker) know(name string, t api.Ty) {
	w.known = append(w.known, api.Local{Name: name, Ty: t})
}

func (w *walker) resolved(t api.Ty) api.Ty {
	t, err := kinds.Resolve(w.source, t)
	w.need(err == api.OK, err)
	return t
}

func (w *walker) let(x *api.Stmt) {
	w.name(x.Name)
	t := w.resolved(x.Ty)
	w.need(!isAddress(t) || !kinds.Holds(t.L[0]), api.ErrHold)
	w.need(types.Same(w.set(x.Rv), t), api.ErrType)
	w.know(x.Name, t)
}

func (w *walker) assign(x *api.Stmt) {
	t, shared := w.place(x.P)
	if len(x.P.Path) > 0 {
		w.need(t.K == api.TyInt && !shared, api.ErrPlace)
	}
	w.need(types.Same(w.set(x.Rv), t), api.ErrType)
}

func (w *walker) match(x *api.Stmt) {
	t, _ := w.place(x.P)
	w.need(t.K == api.TyEnum, api.ErrType)
	l := w.source.Enums[kinds.EnumOf(w.source, t.Name)].Variants
	isOf := func(a api.Arm, v api.Variant) bool { return a.Variant == v.Name }
	w.need(slices.EqualFunc(x.Arms, l, isOf), api.ErrVariant)
	for i := range l {
		w.arm(&x.Arms[i], held(l[i])...)
	}
}

// arm goes through one whose variant holds something of a type, or nothing.
func (w *walker) arm(a *api.Arm, wanted ...api.Ty) {
	defer w.cutBack(len(w.known), w.at)
	w.need((a.Bind != "") == (len(wanted) > 0), api.ErrCount)
	for _, t := range wanted {
		w.name(a.Bind)
		w.know(a.Bind, w.resolved(t))
	}
	w.row(a.Body)
}
