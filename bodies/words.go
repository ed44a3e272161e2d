package bodies

import (
	"strconv"
	"strings"

	"cocoon/api"
)

// words are those of a line that were not read yet.
type words struct {
	l     []string
	wrong bool
}

// done tells whether all was read, and was right.
func (w *words) done() bool { return len(w.l) == 0 && !w.wrong }

// peek is the next word, which is read later; or an empty one.
func (w *words) peek() string {
	if len(w.l) == 0 {
		return ""
	}
	return w.l[0]
}

func (w *words) next() string {
	x := w.peek()
	w.wrong = w.wrong || x == ""
	w.l = w.l[min(1, len(w.l)):]
	return x
}

// skip reads a word that is always the same.
func (w *words) skip(word string) {
	if w.next() != word {
		w.wrong = true
	}
}

func (w *words) number() int { return w.numberOf(w.next()) }

func (w *words) numberOf(text string) int {
	n, err := strconv.Atoi(text)
	w.wrong = w.wrong || err != nil
	return n
}

// numbers are all that are left.
func (w *words) numbers() []int {
	var l []int
	for len(w.l) > 0 {
		l = append(l, w.number())
	}
	return l
}

func (w *words) spot() api.Spot {
	local, path, steps := strings.Cut(w.next(), ".")
	x := api.Spot{Local: w.numberOf(local)}
	if !steps {
		return x
	}
	for _, step := range strings.Split(path, ".") {
		x.Path = append(x.Path, w.numberOf(step))
	}
	return x
}

func (w *words) use() api.Use {
	word := w.next()
	if n, ok := strings.CutPrefix(word, "#"); ok {
		return api.Use{Num: true, N: w.numberOf(n)}
	}
	w.wrong = w.wrong || word != "move" && word != "copy"
	return api.Use{Move: word == "move", S: w.spot()}
}

// value is a value's, and nothing stands behind it; what stands last may be its spot.
func (w *words) value() api.Value {
	v := api.Value{K: api.RvKind(w.number()), Which: w.number(), Tag: w.number()}
	for x := w.peek(); x == "move" || x == "copy" || strings.HasPrefix(x, "#"); x = w.peek() {
		v.Uses = append(v.Uses, w.use())
	}
	if len(w.l) > 0 {
		v.S = w.spot()
	}
	return v
}

// line is that of a step, or of the end, of a block.
func (w *words) line(b *api.Block) {
	word := w.next()
	if x, ok := w.step(word); ok {
		b.Ins = append(b.Ins, x)
		return
	}
	b.End = w.end(word)
}

func (w *words) step(word string) (api.In, bool) {
	var x api.In
	switch word {
	case "live":
		x = api.In{K: api.InLive, S: w.spot()}
	case "dead":
		x = api.In{K: api.InDead, S: w.spot()}
	case "end":
		x = api.In{K: api.InDrop, S: w.spot()}
	case "drop":
		x = api.In{K: api.InDrop, S: w.spot()}
		x.U = api.Use{Move: true, S: x.S}
	case "set":
		x = api.In{K: api.InSet, S: w.spot()}
		w.skip("=")
		x.V = w.value()
	case "print":
		x = api.In{K: api.InPrint, U: w.use()}
	case "open":
		x = api.In{K: api.InOpen, S: w.spot(), V: api.Value{Tag: w.number(), S: w.spot()}}
	default:
		return x, false
	}
	return x, true
}

func (w *words) end(word string) api.Tm {
	var x api.Tm
	switch word {
	case "goto":
		x = api.Tm{K: api.TmGoto}
	case "if":
		x = api.Tm{K: api.TmIf, U: w.use()}
	case "match":
		x = api.Tm{K: api.TmMatch, S: w.spot()}
	case "return":
		x = api.Tm{K: api.TmReturn, U: w.use()}
	case "yield":
		x = api.Tm{K: api.TmYield, U: w.use()}
	case "await":
		x = api.Tm{K: api.TmAwait, S: w.spot(), V: api.Value{S: w.spot()}}
	case "poll":
		x = api.Tm{K: api.TmPoll, S: w.spot(), V: api.Value{S: w.spot()}}
	case "wait":
		x = api.Tm{K: api.TmWait, S: w.spot(), U: w.use()}
	default:
		w.wrong = true
	}
	x.To = w.numbers()
	return x
}
