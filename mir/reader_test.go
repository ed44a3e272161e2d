package mir_test

import (
	"strconv"
	"strings"
	"testing"

	"cocoon/api"
)

// reader reads texts of bodies of a source back: what Text tells of a body that is valid has but one.
type reader struct {
	*testing.T
	source api.Source
}

func read(t *testing.T, s api.Source, text string) api.Body {
	t.Helper()
	r := reader{t, s}
	var b api.Body
	for i, line := range lines(text) {
		words := strings.Fields(line)
		switch {
		case i == 0:
			b.Name, b.Params = words[0], r.number(words[1])
		case words[0] == "block":
			b.Blocks = append(b.Blocks, api.Block{})
		case len(b.Blocks) == 0:
			b.Locals = append(b.Locals, r.local(line))
		default:
			r.line(&b.Blocks[len(b.Blocks)-1], words)
		}
	}
	return b
}

func (r reader) number(word string) int {
	r.Helper()
	n, err := strconv.Atoi(word)
	if err != nil {
		r.Fatal(err)
	}
	return n
}

func (r reader) numbers(words []string) []int {
	r.Helper()
	var l []int
	for _, x := range words {
		l = append(l, r.number(x))
	}
	return l
}

func (r reader) local(line string) api.Local {
	r.Helper()
	_, rest, _ := strings.Cut(line, " ")
	name, text, _ := strings.Cut(rest, " ")
	return api.Local{Name: name, Ty: typed(r.T, r.source, text)}
}

func (r reader) spot(word string) api.Spot {
	r.Helper()
	l := r.numbers(strings.Split(word, "."))
	return api.Spot{Local: l[0], Path: l[1:]}
}

// use is the one ahead, and the words behind it.
func (r reader) use(words []string) (api.Use, []string) {
	r.Helper()
	if n, ok := strings.CutPrefix(words[0], "#"); ok {
		return api.Use{Num: true, N: r.number(n)}, words[1:]
	}
	return api.Use{Move: words[0] == "move", S: r.spot(words[1])}, words[2:]
}

func (r reader) value(words []string) api.Value {
	r.Helper()
	v := api.Value{K: api.RvKind(r.number(words[0])), Which: r.number(words[1]), Tag: r.number(words[2])}
	words = words[3:]
	for len(words) > 0 && (words[0][0] == '#' || words[0] == "move" || words[0] == "copy") {
		var u api.Use
		u, words = r.use(words)
		v.Uses = append(v.Uses, u)
	}
	if len(words) > 0 {
		v.S = r.spot(words[0])
	}
	return v
}

func (r reader) line(b *api.Block, words []string) {
	r.Helper()
	if x, ok := r.step(words); ok {
		b.Ins = append(b.Ins, x)
		return
	}
	b.End = r.end(words)
}

func (r reader) step(words []string) (api.In, bool) {
	r.Helper()
	switch words[0] {
	case "live":
		return api.In{K: api.InLive, S: r.spot(words[1])}, true
	case "dead":
		return api.In{K: api.InDead, S: r.spot(words[1])}, true
	case "set":
		return api.In{K: api.InSet, S: r.spot(words[1]), V: r.value(words[3:])}, true
	case "drop":
		return api.In{K: api.InDrop, S: r.spot(words[1]), U: api.Use{Move: true, S: r.spot(words[1])}}, true
	case "end":
		return api.In{K: api.InDrop, S: r.spot(words[1])}, true
	case "print":
		u, _ := r.use(words[1:])
		return api.In{K: api.InPrint, U: u}, true
	case "open":
		return api.In{K: api.InOpen, S: r.spot(words[1]), V: api.Value{Tag: r.number(words[2]), S: r.spot(words[3])}}, true
	}
	return api.In{}, false
}

func (r reader) end(words []string) api.Tm {
	r.Helper()
	switch words[0] {
	case "goto":
		return api.Tm{K: api.TmGoto, To: r.numbers(words[1:])}
	case "if":
		return r.using(api.Tm{K: api.TmIf}, words[1:])
	case "match":
		return api.Tm{K: api.TmMatch, S: r.spot(words[1]), To: r.numbers(words[2:])}
	case "return":
		return r.using(api.Tm{K: api.TmReturn}, words[1:])
	case "yield":
		return r.using(api.Tm{K: api.TmYield}, words[1:])
	case "await":
		return api.Tm{K: api.TmAwait, S: r.spot(words[1]), V: api.Value{S: r.spot(words[2])}, To: r.numbers(words[3:])}
	case "poll":
		return api.Tm{K: api.TmPoll, S: r.spot(words[1]), V: api.Value{S: r.spot(words[2])}, To: r.numbers(words[3:])}
	case "wait":
		return r.using(api.Tm{K: api.TmWait, S: r.spot(words[1])}, words[2:])
	}
	r.Fatalf("%q is no line of a body", words)
	return api.Tm{}
}

func (r reader) using(x api.Tm, words []string) api.Tm {
	r.Helper()
	x.U, words = r.use(words)
	x.To = r.numbers(words)
	return x
}
