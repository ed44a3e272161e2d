package parse

import "cocoon/api"

func (r *reader) source() api.Source {
	var s api.Source
	for r.next().K != api.TokEnd {
		switch at := r.next().At; {
		case r.takes("enum"):
			s.Enums = append(s.Enums, r.enum(at))
		case r.takes("co"):
			s.Fns = append(s.Fns, r.fn(at))
		default: // where no item begins, a struct can't be read either
			s.Structs = append(s.Structs, r.structure(at))
		}
	}
	return s
}

// structure is a struct that begins at a place.
func (r *reader) structure(at int) api.Struct {
	s := api.Struct{Drop: r.takes("drop"), At: at}
	r.need("struct")
	s.Name = r.great()
	r.need("{")
	s.Fields = list(r, "}", r.field)
	return s
}

// enum is one that began at a place, from its name on.
func (r *reader) enum(at int) api.Enum {
	e := api.Enum{Name: r.great(), At: at}
	r.need("{")
	e.Variants = list(r, "}", r.variant)
	return e
}

// fn is a coroutine that began at a place, from its name on.
func (r *reader) fn(at int) api.Fn {
	f := api.Fn{Name: r.small(), At: at}
	r.need("(")
	f.Params = list(r, ")", r.field)
	f.Body = r.block()
	return f
}

func (r *reader) field() api.Field {
	name := r.small()
	r.need(":")
	return api.Field{Name: name, Ty: r.ty()}
}

func (r *reader) variant() api.Variant {
	v := api.Variant{Name: r.great()}
	if r.takes("(") {
		v.Ty = r.ty()
		r.need(")")
	}
	return v
}

func (r *reader) ty() api.Ty { return r.tyWithin(0) }

// tyWithin is a type that stands in so many of box, & and &mut.
func (r *reader) tyWithin(deep int) api.Ty {
	if deep > api.MaxDeep {
		r.fail(api.ErrDeep)
	}
	of := func(k api.TyKind) api.Ty { return api.Ty{K: k, L: []api.Ty{r.tyWithin(deep + 1)}} }
	switch {
	case r.takes("int"):
		return api.Ty{K: api.TyInt}
	case r.takes("co"):
		return api.Ty{K: api.TyCo, Name: r.small()}
	case r.takes("box"):
		return of(api.TyBox)
	case r.takes("&"):
		if r.takes("mut") {
			return of(api.TyMut)
		}
		return of(api.TyRef)
	}
	return api.Ty{K: api.TyStruct, Name: r.great()}
}
