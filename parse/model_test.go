package parse_test

import (
	"fmt"
	"slices"
	"strings"
	"testing"

	"cocoon/api"
	"cocoon/lexis"
	"cocoon/parse"
	"cocoon/tree"
)

// dice are numbers one behind the other, always the same ones.
type dice uint64

func (d *dice) roll(n int) int {
	*d = *d*6364136223846793005 + 1442695040888963407
	return int(uint64(*d) >> 33 % uint64(n))
}

func (d *dice) pick(all ...string) string { return all[d.roll(len(all))] }

// teller tells words that the rules allow, one behind the other.
type teller struct {
	*dice
	grammar
	words []string
	room  int // how many words there may be till all is told as short as it can be
}

func (d *dice) source(g grammar, room int) []string {
	w := &teller{dice: d, grammar: g, room: room}
	w.tell(g["source"])
	return w.words
}

func (w *teller) tell(p *part) {
	full := len(w.words) >= w.room
	switch p.k {
	case aWord:
		w.words = append(w.words, p.text)
	case aSmall:
		w.words = append(w.words, w.pick("a", "x", "f", "y_1", "lets", "q23456789012345678901234"))
	case aGreat:
		w.words = append(w.words, w.pick("A", "S", "E", "B_2", "Let", "Q23456789012345678901234"))
	case aNumber:
		w.words = append(w.words, w.pick("1", "7", "042", "9223372036854775807"))
	case aRule:
		w.tell(w.grammar[p.text])
	case inTurn:
		for _, x := range p.in {
			w.tell(x)
		}
	case oneOf:
		if full { // the first choice of each rule ends
			w.tell(p.in[0])
		} else {
			w.tell(p.in[w.roll(len(p.in))])
		}
	case perhaps:
		if !full && w.roll(2) == 0 {
			w.tell(p.in[0])
		}
	case anyTimes:
		for len(w.words) < w.room && w.roll(4) != 0 {
			w.tell(p.in[0])
		}
	}
}

// text is words with gaps between, that keep them apart.
func (d *dice) text(words []string) string {
	var b strings.Builder
	for i, x := range words {
		gap := d.pick("", "", " ", " ", "\t", "\n", "  ", " // }\n", "//\n")
		if i > 0 && gap == "" && !apart(words[i-1], x) {
			gap = " "
		}
		b.WriteString(gap + x)
	}
	return b.String() + d.pick("", " ", "\n", "// a")
}

// apart tells whether two words are two tokens, though nothing stands between them.
func apart(a, b string) bool {
	tokens, err, _ := lexis.Lex(a + b)
	return err == api.OK && len(tokens) == 3 && tokens[0].Text == a
}

// spoil takes words away, doubles them, puts others in their place, or cuts the rest off.
func (d *dice) spoil(words []string) []string {
	words = slices.Clone(words)
	for range 1 + d.roll(2) {
		if len(words) == 0 {
			return words
		}
		i := d.roll(len(words))
		switch d.roll(6) {
		case 0:
			words = slices.Delete(words, i, i+1)
		case 1:
			words = slices.Insert(words, i, words[i])
		case 2:
			words = words[:i]
		case 3:
			j := d.roll(len(words))
			words[i], words[j] = words[j], words[i]
		case 4:
			words = slices.Insert(words, i, d.pick(vocabulary()...))
		case 5:
			words[i] = d.pick(vocabulary()...)
		}
	}
	return words
}

// vocabulary is a token of each kind: each reserved word, each sign, some names and a number.
func vocabulary() []string {
	return strings.Fields("struct enum co let if else while match yield return print drop box unbox start await poll wait mut int " +
		"{ } ( ) , ; : :: . * & = == => + - -> < a x S E 1")
}

// agrees fails, if of a text another thing is told than the model tells; or, if it is read, if that is not what stands there.
func agrees(t *testing.T, g grammar, s string) api.Errno {
	t.Helper()
	err, where := newModel(g).told(s)
	if err != api.OK {
		errs(t, s, err, where)
		return err
	}
	got, err, where := parse.Parse(s)
	if err != api.OK || where != 0 {
		t.Errorf("Parse(%q): %v, %d, want a source", s, err, where)
		return api.OK
	}
	readAgain(t, s, got)
	retold(t, s, got)
	return api.OK
}

// TestModel holds what is told of many texts against the rules: of those that may stand, and of those that were spoilt.
func TestModel(t *testing.T) {
	d, g := dice(6), readGrammar(rules)
	count := map[api.Errno]int{}
	for range 6000 {
		words := d.source(g, 10+d.roll(120))
		if err := agrees(t, g, d.text(words)); err != api.OK {
			t.Errorf("%q should be a source", words)
		}
		for range 3 {
			count[agrees(t, g, d.text(d.spoil(words)))]++
		}
		if t.Failed() {
			return
		}
	}
	if count[api.OK] < 1000 || count[api.ErrToken] < 10000 {
		t.Errorf("%v: too few to tell", count)
	}
}

// TestEachToken puts each token behind many beginnings of texts: some for each choice that the rules leave there.
func TestEachToken(t *testing.T) {
	d, g := dice(66), readGrammar(rules)
	met, tried := map[*part]int{}, map[string]int{}
	for range 3000 {
		words := d.source(g, 60)
		m := newModel(g)
		for i := range len(words) + 1 {
			if key := m.choices(); tried[key] < 4 {
				tried[key]++
				ahead := strings.Join(words[:i], " ") + " "
				agrees(t, g, ahead)
				for _, x := range vocabulary() {
					agrees(t, g, ahead+x)
				}
			}
			if i < len(words) {
				told, _, _ := lexis.Lex(words[i])
				m.step(told[0])
			}
		}
		for p, n := range m.met {
			met[p] += n
		}
		if t.Failed() {
			return
		}
	}
	for name, p := range g {
		allMet(t, name, p, met)
	}
}

// choices names the parts of the rules of which the next token may be one.
func (m *model) choices() string {
	var l []string
	for _, x := range m.at {
		if x != nil {
			l = append(l, fmt.Sprintf("%p", x.part))
		}
	}
	slices.Sort(l)
	return strings.Join(l, " ")
}

// allMet fails, if a token of a rule stood in none of the texts.
func allMet(t *testing.T, rule string, p *part, met map[*part]int) {
	t.Helper()
	if p.k < aRule && met[p] == 0 {
		t.Errorf("of %s, %v %q was never met", rule, p.k, p.text)
	}
	for _, x := range p.in {
		allMet(t, rule, x, met)
	}
}

// TestNoise: words, and bytes, in no order at all.
func TestNoise(t *testing.T) {
	d, g := dice(666), readGrammar(rules)
	count := map[api.Errno]int{}
	for range 60000 {
		var words []string
		if d.roll(2) == 0 {
			words = strings.Fields(d.pick("struct S {", "enum E {", "co f(", "co f() { x =", "co f() {", "co f() { match x {", "co f() { let a :"))
		}
		for range d.roll(12) {
			words = append(words, d.pick(vocabulary()...))
		}
		s := d.text(words)
		if d.roll(8) == 0 {
			i := d.roll(len(s) + 1)
			s = s[:i] + string([]byte{byte(d.roll(256))}) + s[i:]
		}
		count[agrees(t, g, s)]++
		if t.Failed() {
			return
		}
	}
	if count[api.OK] < 100 || count[api.ErrByte] < 100 || count[api.ErrToken] < 10000 {
		t.Errorf("%v: too few to tell", count)
	}
}

// TestDeepModel: texts whose types and blocks are about as deep as they may be.
func TestDeepModel(t *testing.T) {
	d, g := dice(6666), readGrammar(rules)
	count := map[api.Errno]int{}
	for range 800 {
		words := strings.Fields("co f ( ) {")
		for range 55 + d.roll(8) {
			words = append(words, strings.Fields(d.pick("if 1 {", "if x . f { } else {", "while x {", "match x { A => {", "match x { A => { } B ( a ) => {"))...)
		}
		words = append(words, "let", "a", ":")
		for range 55 + d.roll(8) {
			words = append(words, strings.Fields(d.pick("box", "&", "& mut"))...)
		}
		words = append(words, strings.Fields(d.pick("int = 1 ;", "co g = x ;", "S = x ; if 1 { }", "{", ""))...)
		count[agrees(t, g, d.text(words))]++
		words = append(words, d.closing(words)...)
		count[agrees(t, g, d.text(words))]++
		count[agrees(t, g, d.text(d.spoil(words)))]++
		if t.Failed() {
			return
		}
	}
	if count[api.OK] < 50 || count[api.ErrDeep] < 500 || count[api.ErrToken] < 200 {
		t.Errorf("%v: too few to tell", count)
	}
}

// closing is as many braces as stand open in words.
func (d *dice) closing(words []string) []string {
	open := 0
	for _, x := range words {
		switch x {
		case "{":
			open++
		case "}":
			open--
		}
	}
	return slices.Repeat([]string{"}"}, max(0, open))
}

// retold fails, if the words of a text are not those of what is written of its source, or if something stands elsewhere than it tells.
func retold(t *testing.T, s string, got api.Source) {
	t.Helper()
	tokens, _, _ := lexis.Lex(s)
	text := tree.Text(got)
	written, _, _ := lexis.Lex(text)
	wanted := inOrder(asWritten(tokens[:len(tokens)-1]))
	written = written[:len(written)-1]
	if !slices.EqualFunc(wanted, written, func(a, b api.Token) bool {
		return a.K == b.K && a.N == b.N && (a.Text == b.Text || a.K == api.TokInt)
	}) {
		t.Errorf("Parse(%q) is written as %q", s, text)
		return
	}
	var places []int
	starts := lineStarts(text)
	for i, x := range written {
		if slices.Contains(starts, x.At) {
			places = append(places, wanted[i].At)
		}
	}
	if told := tolds(got); !slices.Equal(told, places) {
		t.Errorf("Parse(%q): items and statements stand at %v, want %v", s, told, places)
	}
}

// asWritten is tokens without what need not be told: an else with nothing in it, and the sign of a zero.
func asWritten(tokens []api.Token) []api.Token {
	var l []api.Token
	for i := 0; i < len(tokens); i++ {
		switch rest := tokens[i:]; {
		case rest[0].Text == "else" && rest[2].Text == "}":
			i += 2
		case rest[0].Text == "-" && rest[1].K == api.TokInt && rest[1].N == 0 && !valueEnds(l):
		default:
			l = append(l, rest[0])
		}
	}
	return l
}

// valueEnds tells whether the last token is the last one of an operand, so that a - behind it stands between two of them.
func valueEnds(l []api.Token) bool {
	last := l[len(l)-1]
	return last.K == api.TokInt || last.K == api.TokName && !lexis.Reserved(last.Text) || last.Text == "*" && l[len(l)-2].Text == "."
}

// inOrder is tokens, item by item, with structs first, then enums, then coroutines.
func inOrder(tokens []api.Token) []api.Token {
	var items [3][]api.Token
	open, begin := 0, 0
	for i, x := range tokens {
		switch x.Text {
		case "{":
			open++
		case "}":
			open--
			if open > 0 {
				continue
			}
			kind := max(0, slices.Index([]string{"", "enum", "co"}, tokens[begin].Text))
			items[kind] = append(items[kind], tokens[begin:i+1]...)
			begin = i + 1
		}
	}
	return slices.Concat(items[:]...)
}

// lineStarts are the places in a source's text where an item or a statement begins: each line that neither closes something nor is an arm.
func lineStarts(text string) []int {
	var l []int
	at := 0
	for line := range strings.Lines(text) {
		rest := strings.TrimLeft(line, "\t")
		if rest[0] != '}' && !strings.HasSuffix(rest, "=> {\n") {
			l = append(l, at+len(line)-len(rest))
		}
		at += len(line)
	}
	return l
}

// tolds are where a source tells that its items and statements stand, in the order in which they are written.
func tolds(s api.Source) []int {
	var l []int
	for _, x := range s.Structs {
		l = append(l, x.At)
	}
	for _, x := range s.Enums {
		l = append(l, x.At)
	}
	var body func([]api.Stmt)
	body = func(b []api.Stmt) {
		for _, x := range b {
			l = append(l, x.At)
			body(x.Then)
			body(x.Else)
			for _, a := range x.Arms {
				body(a.Body)
			}
		}
	}
	for _, x := range s.Fns {
		l = append(l, x.At)
		body(x.Body)
	}
	return l
}
