package parse

import "cocoon/api"

// signs stand between two operands: that of RvAdd first, then those of the kinds behind it.
var signs = [...]string{"+", "-", "*", "<", "=="}

func (r *reader) block() []api.Stmt {
	if r.deep == api.MaxDeep && r.next().Text == "{" {
		r.fail(api.ErrDeep)
	}
	r.need("{")
	r.deep++
	body := row(r, "}", r.stmt)
	r.deep--
	return body
}

func (r *reader) stmt() api.Stmt {
	at := r.next().At
	s, blocks := r.ofBlocks()
	if !blocks {
		s = r.plain()
		r.need(";")
	}
	s.At = at
	return s
}

// ofBlocks is a statement that ends with a block, or with its arms; or false, if none begins here.
func (r *reader) ofBlocks() (api.Stmt, bool) {
	var s api.Stmt
	switch {
	case r.takes("if"):
		s = api.Stmt{K: api.StIf, Op: r.oper(), Then: r.block()}
		if r.takes("else") {
			s.Else = r.block()
		}
	case r.takes("while"):
		s = api.Stmt{K: api.StWhile, Op: r.oper(), Then: r.block()}
	case r.takes("match"):
		s = api.Stmt{K: api.StMatch, P: r.alone()}
		r.need("{")
		s.Arms = row(r, "}", r.arm)
	default:
		return api.Stmt{}, false
	}
	return s, true
}

func (r *reader) arm() api.Arm {
	a := api.Arm{Variant: r.great()}
	if r.takes("(") {
		a.Bind = r.small()
		r.need(")")
	}
	r.need("=>")
	a.Body = r.block()
	return a
}

// plain is a statement of any other kind, up to its semicolon.
func (r *reader) plain() api.Stmt {
	switch {
	case r.takes("let"):
		f := r.field()
		return api.Stmt{K: api.StLet, Name: f.Name, Ty: f.Ty, Rv: r.isSet()}
	case r.takes("yield"):
		return api.Stmt{K: api.StYield, Op: r.oper()}
	case r.takes("return"):
		return api.Stmt{K: api.StReturn, Op: r.oper()}
	case r.takes("print"):
		return api.Stmt{K: api.StPrint, Op: r.oper()}
	case r.takes("drop"):
		return api.Stmt{K: api.StDrop, P: r.alone()}
	}
	return api.Stmt{K: api.StSet, P: r.place(), Rv: r.isSet()}
}

// alone is a name without steps.
func (r *reader) alone() api.Place { return api.Place{Name: r.small()} }

func (r *reader) place() api.Place {
	p := r.alone()
	for r.takes(".") {
		p.Path = append(p.Path, r.step())
	}
	return p
}

func (r *reader) step() api.Step {
	if r.takes("*") {
		return api.Step{}
	}
	return api.Step{Field: r.small()}
}

func (r *reader) oper() api.Oper {
	if r.takes("-") {
		return api.Oper{Num: true, N: -r.number()}
	}
	if number(r.next()) {
		return api.Oper{Num: true, N: r.number()}
	}
	return api.Oper{P: r.place()}
}

func (r *reader) args() []api.Oper {
	r.need("(")
	return list(r, ")", r.oper)
}

// isSet is what stands behind a =.
func (r *reader) isSet() api.Rv {
	r.need("=")
	return r.set()
}

func (r *reader) set() api.Rv {
	switch {
	case r.takes("&"):
		if r.takes("mut") {
			return api.Rv{K: api.RvMut, P: r.place()}
		}
		return api.Rv{K: api.RvRef, P: r.place()}
	case r.takes("box"):
		return api.Rv{K: api.RvBox, Ops: []api.Oper{r.oper()}}
	case r.takes("unbox"):
		return api.Rv{K: api.RvUnbox, P: r.alone()}
	case r.takes("start"):
		return api.Rv{K: api.RvStart, Name: r.small(), Ops: r.args()}
	case r.takes("await"):
		return api.Rv{K: api.RvAwait, P: r.alone()}
	case r.takes("poll"):
		return api.Rv{K: api.RvPoll, P: r.alone()}
	case r.takes("wait"):
		return api.Rv{K: api.RvWait, Ops: []api.Oper{r.oper()}}
	case great(r.next()):
		return r.made()
	}
	return r.reckoned()
}

// made is a struct, or an enum's variant.
func (r *reader) made() api.Rv {
	v := api.Rv{K: api.RvMake, Name: r.great()}
	if !r.takes("::") {
		v.Ops = r.args()
		return v
	}
	v.K, v.Variant = api.RvVariant, r.great()
	if r.takes("(") {
		v.Ops = []api.Oper{r.oper()}
		r.need(")")
	}
	return v
}

// reckoned is an operand, or two with a sign between.
func (r *reader) reckoned() api.Rv {
	first := r.oper()
	for i, sign := range signs {
		if r.takes(sign) {
			return api.Rv{K: api.RvAdd + api.RvKind(i), Ops: []api.Oper{first, r.oper()}}
		}
	}
	return api.Rv{K: api.RvUse, Ops: []api.Oper{first}}
}
