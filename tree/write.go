package tree

import (
	"strings"

	"cocoon/api"
)

// writer is a text, line by line, with so many tabs ahead of each line.
type writer struct {
	strings.Builder
	tabs int
}

// line writes pieces of a text as one line.
func (w *writer) line(pieces ...string) {
	for range w.tabs {
		w.WriteByte('\t')
	}
	for _, x := range pieces {
		w.WriteString(x)
	}
	w.WriteByte('\n')
}

// further lets lines stand one tab further in, until what it answers is called.
func (w *writer) further() func() {
	w.tabs++
	return func() { w.tabs-- }
}

// list is the text of things, with a comma between.
func list[T any](things []T, text func(T) string) string {
	var b strings.Builder
	for i, x := range things {
		if i > 0 {
			b.WriteString(", ")
		}
		b.WriteString(text(x))
	}
	return b.String()
}

// braces is the text of what an item holds, with a blank ahead.
func braces[T any](things []T, text func(T) string) string {
	if len(things) == 0 {
		return " {}"
	}
	return " { " + list(things, text) + " }"
}

func field(f api.Field) string {
	return f.Name + ": " + Type(f.Ty)
}

func variant(v api.Variant) string {
	if v.Ty.K == api.TyUnit {
		return v.Name
	}
	return v.Name + "(" + Type(v.Ty) + ")"
}

func (w *writer) structure(s api.Struct) {
	word := "struct "
	if s.Drop {
		word = "drop struct "
	}
	w.line(word, s.Name, braces(s.Fields, field))
}

// row writes what stands in a block.
func (w *writer) row(body []api.Stmt) {
	defer w.further()()
	for _, x := range body {
		w.statement(x)
	}
}

func (w *writer) statement(s api.Stmt) {
	switch s.K {
	case api.StLet:
		w.line("let ", s.Name, ": ", Type(s.Ty), " = ", Set(s.Rv), ";")
	case api.StSet:
		w.line(Place(s.P), " = ", Set(s.Rv), ";")
	case api.StIf:
		w.both(s)
	case api.StWhile:
		w.line("while ", Oper(s.Op), " {")
		w.row(s.Then)
		w.line("}")
	case api.StMatch:
		w.line("match ", Place(s.P), " {")
		w.arms(s.Arms)
		w.line("}")
	case api.StYield:
		w.line("yield ", Oper(s.Op), ";")
	case api.StReturn:
		w.line("return ", Oper(s.Op), ";")
	case api.StPrint:
		w.line("print ", Oper(s.Op), ";")
	case api.StDrop:
		w.line("drop ", Place(s.P), ";")
	default:
		w.line(unknown)
	}
}

// both writes an if, and its else, if something stands there.
func (w *writer) both(s api.Stmt) {
	w.line("if ", Oper(s.Op), " {")
	w.row(s.Then)
	if len(s.Else) > 0 {
		w.line("} else {")
		w.row(s.Else)
	}
	w.line("}")
}

func (w *writer) arms(arms []api.Arm) {
	defer w.further()()
	for _, x := range arms {
		w.line(x.Variant, bound(x), " => {")
		w.row(x.Body)
		w.line("}")
	}
}

// bound is the text of an arm's name, if it has one.
func bound(a api.Arm) string {
	if a.Bind == "" {
		return ""
	}
	return "(" + a.Bind + ")"
}
