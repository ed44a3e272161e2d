package tree_test

import (
	"slices"
	"strings"

	"cocoon/api"
	"cocoon/lexis"
)

// reader reads a text by the rules of doc/06-parse.md, as plainly as they stand there.
type reader struct {
	tokens []api.Token
	at     int
}

// unread is the panic's value where a text can't be read.
type unread struct{}

// read is the source of a text, and whether it could be read.
func read(s string) (source api.Source, ok bool) {
	tokens, err, _ := lexis.Lex(s)
	if err != api.OK {
		return api.Source{}, false
	}
	defer func() {
		if x := recover(); x != nil {
			if _, mine := x.(unread); !mine {
				panic(x)
			}
			source, ok = api.Source{}, false
		}
	}()
	r := &reader{tokens: tokens}
	for r.tokens[r.at].K != api.TokEnd {
		r.item(&source)
	}
	return source, true
}

// is tells whether the next token is one of these words and signs, and passes it, if it is.
func (r *reader) is(texts ...string) bool {
	x := r.tokens[r.at]
	if x.K == api.TokInt || x.K == api.TokEnd || !slices.Contains(texts, x.Text) {
		return false
	}
	r.at++
	return true
}

// need passes what must stand here, one behind the other.
func (r *reader) need(texts ...string) {
	for _, x := range texts {
		if !r.is(x) {
			panic(unread{})
		}
	}
}

func (r *reader) name(great bool) string {
	x := r.tokens[r.at]
	if x.K != api.TokName || lexis.Reserved(x.Text) || (x.Text[0] <= 'Z') != great {
		panic(unread{})
	}
	r.at++
	return x.Text
}

func (r *reader) small() string { return r.name(false) }

func (r *reader) great() string { return r.name(true) }

// upcoming tells whether the next token is a great name.
func (r *reader) upcoming() bool {
	x := r.tokens[r.at]
	return x.K == api.TokName && x.Text[0] <= 'Z'
}

// many reads things with commas between, up to an end; there may be none.
func (r *reader) many(end string, one func()) {
	if r.is(end) {
		return
	}
	for one(); !r.is(end); one() {
		r.need(",")
	}
}

func (r *reader) item(s *api.Source) {
	at := r.tokens[r.at].At
	switch {
	case r.is("enum"):
		e := api.Enum{Name: r.great(), At: at}
		r.need("{")
		r.many("}", func() { e.Variants = append(e.Variants, r.variant()) })
		s.Enums = append(s.Enums, e)
	case r.is("co"):
		f := api.Fn{Name: r.small(), At: at}
		r.need("(")
		f.Params = r.fields(")")
		f.Body = r.block(1)
		s.Fns = append(s.Fns, f)
	default:
		drop := r.is("drop")
		r.need("struct")
		x := api.Struct{Name: r.great(), Drop: drop, At: at}
		r.need("{")
		x.Fields = r.fields("}")
		s.Structs = append(s.Structs, x)
	}
}

func (r *reader) variant() api.Variant {
	v := api.Variant{Name: r.great()}
	if r.is("(") {
		v.Ty = r.ty(0)
		r.need(")")
	}
	return v
}

func (r *reader) fields(end string) []api.Field {
	var l []api.Field
	r.many(end, func() {
		name := r.small()
		r.need(":")
		l = append(l, api.Field{Name: name, Ty: r.ty(0)})
	})
	return l
}

func (r *reader) ty(deep int) api.Ty {
	if deep > 60 {
		panic(unread{})
	}
	switch {
	case r.is("int"):
		return api.Ty{K: api.TyInt}
	case r.is("co"):
		return api.Ty{K: api.TyCo, Name: r.small()}
	case r.is("box"):
		return api.Ty{K: api.TyBox, L: []api.Ty{r.ty(deep + 1)}}
	case r.is("&"):
		k := api.TyRef
		if r.is("mut") {
			k = api.TyMut
		}
		return api.Ty{K: k, L: []api.Ty{r.ty(deep + 1)}}
	}
	return api.Ty{K: api.TyStruct, Name: r.great()}
}

func (r *reader) block(deep int) []api.Stmt {
	r.need("{")
	if deep > 60 {
		panic(unread{})
	}
	var l []api.Stmt
	for !r.is("}") {
		at := r.tokens[r.at].At
		s := r.stmt(deep)
		s.At = at
		l = append(l, s)
	}
	return l
}

func (r *reader) stmt(deep int) api.Stmt {
	var s api.Stmt
	switch {
	case r.is("if"):
		s = api.Stmt{K: api.StIf, Op: r.oper(), Then: r.block(deep + 1)}
		if r.is("else") {
			s.Else = r.block(deep + 1)
		}
		return s
	case r.is("while"):
		return api.Stmt{K: api.StWhile, Op: r.oper(), Then: r.block(deep + 1)}
	case r.is("match"):
		s = api.Stmt{K: api.StMatch, P: api.Place{Name: r.small()}}
		r.need("{")
		for !r.is("}") {
			s.Arms = append(s.Arms, r.arm(deep+1))
		}
		return s
	case r.is("let"):
		s = api.Stmt{K: api.StLet, Name: r.small()}
		r.need(":")
		s.Ty = r.ty(0)
		r.need("=")
		s.Rv = r.set()
	case r.is("yield"):
		s = api.Stmt{K: api.StYield, Op: r.oper()}
	case r.is("return"):
		s = api.Stmt{K: api.StReturn, Op: r.oper()}
	case r.is("print"):
		s = api.Stmt{K: api.StPrint, Op: r.oper()}
	case r.is("drop"):
		s = api.Stmt{K: api.StDrop, P: api.Place{Name: r.small()}}
	default:
		s = api.Stmt{K: api.StSet, P: r.place()}
		r.need("=")
		s.Rv = r.set()
	}
	r.need(";")
	return s
}

func (r *reader) arm(deep int) api.Arm {
	a := api.Arm{Variant: r.great()}
	if r.is("(") {
		a.Bind = r.small()
		r.need(")")
	}
	r.need("=>")
	a.Body = r.block(deep)
	return a
}

func (r *reader) place() api.Place {
	p := api.Place{Name: r.small()}
	for r.is(".") {
		var x api.Step
		if !r.is("*") {
			x.Field = r.small()
		}
		p.Path = append(p.Path, x)
	}
	return p
}

func (r *reader) oper() api.Oper {
	sign := 1
	if r.is("-") {
		sign = -1
	}
	if x := r.tokens[r.at]; x.K == api.TokInt {
		r.at++
		return api.Oper{Num: true, N: sign * x.N}
	}
	if sign < 0 {
		panic(unread{})
	}
	return api.Oper{P: r.place()}
}

func (r *reader) args() []api.Oper {
	var l []api.Oper
	r.need("(")
	r.many(")", func() { l = append(l, r.oper()) })
	return l
}

func (r *reader) set() api.Rv {
	switch {
	case r.is("&"):
		k := api.RvRef
		if r.is("mut") {
			k = api.RvMut
		}
		return api.Rv{K: k, P: r.place()}
	case r.is("box"):
		return api.Rv{K: api.RvBox, Ops: []api.Oper{r.oper()}}
	case r.is("unbox"):
		return api.Rv{K: api.RvUnbox, P: api.Place{Name: r.small()}}
	case r.is("start"):
		return api.Rv{K: api.RvStart, Name: r.small(), Ops: r.args()}
	case r.is("await"):
		return api.Rv{K: api.RvAwait, P: api.Place{Name: r.small()}}
	case r.is("poll"):
		return api.Rv{K: api.RvPoll, P: api.Place{Name: r.small()}}
	case r.is("wait"):
		return api.Rv{K: api.RvWait, Ops: []api.Oper{r.oper()}}
	case r.upcoming():
		return r.made()
	}
	v := api.Rv{Ops: []api.Oper{r.oper()}}
	for i, x := range strings.Fields("+ - * < ==") {
		if r.is(x) {
			return api.Rv{K: api.RvAdd + api.RvKind(i), Ops: append(v.Ops, r.oper())}
		}
	}
	return v
}

// made is a struct, or an enum.
func (r *reader) made() api.Rv {
	v := api.Rv{K: api.RvMake, Name: r.great()}
	if !r.is("::") {
		v.Ops = r.args()
		return v
	}
	v.K, v.Variant = api.RvVariant, r.great()
	if r.is("(") {
		v.Ops = []api.Oper{r.oper()}
		r.need(")")
	}
	return v
}
