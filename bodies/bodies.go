// Package bodies reads what mir.Text writes. No layer needs it: tests write the bodies that they ask about as texts.
package bodies

import (
	"strings"

	"cocoon/api"
	"cocoon/kinds"
	"cocoon/parse"
	"cocoon/tree"
)

// Read is the body that a text is of, its types those of a source; false, if it is of none. Whether that body may be is not asked; At is 0 everywhere.
func Read(s api.Source, text string) (api.Body, bool) {
	var b api.Body
	ok := true
	for i, line := range strings.Split(strings.TrimSuffix(text, "\n"), "\n") {
		w := &words{l: strings.Fields(line)}
		switch {
		case i == 0:
			b.Name, b.Params = w.next(), w.number()
		case strings.HasPrefix(line, "block "):
			b.Blocks = append(b.Blocks, api.Block{})
			w.l = nil
		case len(b.Blocks) == 0:
			x, known := local(s, strings.TrimPrefix(line, "\t"))
			b.Locals = append(b.Locals, x)
			ok = ok && known
			w.l = nil
		default:
			w.line(&b.Blocks[len(b.Blocks)-1])
		}
		ok = ok && w.done()
	}
	if !ok {
		return api.Body{}, false
	}
	return b, true
}

// local is the one of a line: its place, its name, which may be empty, and its type.
func local(s api.Source, line string) (api.Local, bool) {
	_, rest, _ := strings.Cut(line, " ")
	name, text, _ := strings.Cut(rest, " ")
	t, ok := Type(s, text)
	return api.Local{Name: name, Ty: t}, ok
}

// Type is the type that a text is of, resolved; false, if it is of none.
func Type(s api.Source, text string) (api.Ty, bool) {
	read, err, _ := parse.Parse("co f(x: " + text + ") {}")
	if err != api.OK {
		return api.Ty{}, false
	}
	t, err := kinds.Resolve(s, read.Fns[0].Params[0].Ty)
	if err != api.OK || tree.Type(t) != text { // a text may have more in it than a type
		return api.Ty{}, false
	}
	return t, true
}

// Spot is the spot that a text is of; false, if it is of none.
func Spot(text string) (api.Spot, bool) {
	w := &words{l: strings.Fields(text)}
	x := w.spot()
	if !w.done() {
		return api.Spot{}, false
	}
	return x, true
}

// Value is the value that a text is of; false, if it is of none.
func Value(text string) (api.Value, bool) {
	w := &words{l: strings.Fields(text)}
	v := w.value()
	if !w.done() {
		return api.Value{}, false
	}
	return v, true
}
