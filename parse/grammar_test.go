package parse_test

import (
	"strings"

	"cocoon/api"
	"cocoon/lexis"
)

// rules are those of doc/06-parse.md, as they stand there.
const rules = `
source = { item }
item   = [ drop ] struct great fields | enum great ( "{" "}" | "{" variant { , variant } "}" ) | co small "(" [ field { , field } ] ")" block
fields = "{" "}" | "{" field { , field } "}"
field  = small : type
variant = great [ "(" type ")" ]
type   = int | great | co small | box type | & [ mut ] type
block  = "{" { stmt } "}"
stmt   = let small : type = set ; | if oper block [ else block ] | while oper block
       | match small "{" { great [ "(" small ")" ] => block } "}"
       | yield oper ; | return oper ; | print oper ; | drop small ; | place = set ;
place  = small { . ( small | * ) }
oper   = [ - ] TokInt | place
set    = & [ mut ] place | box oper | unbox small | start small args | await small | poll small | wait oper
       | great args | great :: great [ "(" oper ")" ] | oper [ ( + | - | * | < | == ) oper ]
args   = "(" [ oper { , oper } ] ")"
`

// How a part of a rule is read.
type partKind int

const (
	aWord partKind = iota // a word or a sign that stands for itself
	aSmall
	aGreat
	aNumber
	aRule
	inTurn   // all of in
	oneOf    // one of in
	perhaps  // in[0], or nothing
	anyTimes // in[0], any number of times
)

// part is a part of a rule.
type part struct {
	k    partKind
	text string
	in   []*part
}

// grammar is the rules' parts by their names.
type grammar map[string]*part

// readGrammar is the grammar of rules; a line that begins with a blank goes on with the last one.
func readGrammar(text string) grammar {
	lines := map[string][]string{}
	name := ""
	for line := range strings.Lines(strings.TrimPrefix(text, "\n")) {
		words := strings.Fields(line)
		if line[0] != ' ' {
			name, words = words[0], words[2:]
		}
		lines[name] = append(lines[name], words...)
	}
	g := grammar{}
	for name, words := range lines {
		r := ruleReader{words, lines}
		g[name] = r.choice()
	}
	return g
}

// ruleReader reads the words of a rule.
type ruleReader struct {
	words []string
	rules map[string][]string
}

func (r *ruleReader) takes(word string) bool {
	if len(r.words) == 0 || r.words[0] != word {
		return false
	}
	r.words = r.words[1:]
	return true
}

func (r *ruleReader) choice() *part {
	p := &part{k: oneOf, in: []*part{r.turn()}}
	for r.takes("|") {
		p.in = append(p.in, r.turn())
	}
	return p
}

func (r *ruleReader) turn() *part {
	p := &part{k: inTurn}
	for len(r.words) > 0 && !strings.Contains("|)]}", r.words[0]) {
		p.in = append(p.in, r.one())
	}
	return p
}

func (r *ruleReader) one() *part {
	word := r.words[0]
	r.words = r.words[1:]
	switch word {
	case "(":
		return r.upTo(")", r.choice())
	case "[":
		return r.upTo("]", &part{k: perhaps, in: []*part{r.choice()}})
	case "{":
		return r.upTo("}", &part{k: anyTimes, in: []*part{r.choice()}})
	case "small":
		return &part{k: aSmall}
	case "great":
		return &part{k: aGreat}
	case "TokInt":
		return &part{k: aNumber}
	}
	if _, ok := r.rules[word]; ok {
		return &part{k: aRule, text: word}
	}
	return &part{k: aWord, text: strings.Trim(word, `"`)}
}

func (r *ruleReader) upTo(end string, p *part) *part {
	if !r.takes(end) {
		panic("a rule without " + end)
	}
	return p
}

// stands tells whether a token is what a word, a name or a number of a rule stands for.
func (p *part) stands(t api.Token) bool {
	word := t.K == api.TokName && !lexis.Reserved(t.Text)
	upper := word && t.Text[0] >= 'A' && t.Text[0] <= 'Z'
	switch p.k {
	case aSmall:
		return word && !upper
	case aGreat:
		return upper
	case aNumber:
		return t.K == api.TokInt
	}
	return t.Text == p.text && (t.K == api.TokSign || lexis.Reserved(t.Text))
}

// left is what is left to be read: a part, and what stands behind it; and in how many blocks and types the part stands.
type left struct {
	*part
	blocks, types int
	behind        *left
}

// model reads tokens in all ways at once in which the rules could go on.
type model struct {
	grammar
	at   []*left       // what may be left, each with a token's part first; nil: nothing
	deep bool          // a type would stand here in too many
	met  map[*part]int // how often a token stood for each part
}

func newModel(g grammar) *model {
	m := &model{grammar: g, met: map[*part]int{}}
	m.open(&left{part: &part{k: aRule, text: "source"}})
	return m
}

// open adds all ways in which what is left could begin with a token.
func (m *model) open(l *left) {
	if l == nil || l.k < aRule {
		m.at = append(m.at, l)
		return
	}
	then := func(p *part, behind *left) *left { return &left{p, l.blocks, l.types, behind} }
	switch l.k {
	case aRule:
		m.openRule(l)
	case inTurn:
		rest := l.behind
		for i := len(l.in) - 1; i >= 0; i-- {
			rest = then(l.in[i], rest)
		}
		m.open(rest)
	case oneOf:
		for _, x := range l.in {
			m.open(then(x, l.behind))
		}
	case perhaps:
		m.open(then(l.in[0], l.behind))
		m.open(l.behind)
	case anyTimes:
		m.open(then(l.in[0], l))
		m.open(l.behind)
	}
}

func (m *model) openRule(l *left) {
	inner := &left{m.grammar[l.text], l.blocks, l.types, l.behind}
	switch l.text {
	case "block":
		inner.blocks++
	case "type":
		if l.types > 60 {
			m.deep = true
			return
		}
		inner.types++
	}
	m.open(inner)
}

// step reads a token, or tells why it can't stand there.
func (m *model) step(t api.Token) api.Errno {
	was, deep := m.at, m.deep
	m.at, m.deep = nil, false
	err := api.ErrToken
	if deep {
		err = api.ErrDeep
	}
	brace := m.grammar["block"].in[0].in[0]
	for _, l := range was {
		if l == nil || !l.stands(t) {
			continue
		}
		if l.part == brace && l.blocks > 60 {
			return api.ErrDeep
		}
		m.met[l.part]++
		err = api.OK
		m.open(l.behind)
	}
	return err
}

// end tells whether the text may end here, or why not.
func (m *model) end() api.Errno {
	for _, l := range m.at {
		if l == nil {
			return api.OK
		}
	}
	if m.deep {
		return api.ErrDeep
	}
	return api.ErrToken
}

// told is what should be told of a text: OK, or an error and where.
func (m *model) told(s string) (api.Errno, int) {
	tokens, err, at := lexis.Lex(s)
	if err != api.OK {
		return err, at
	}
	for _, t := range tokens[:len(tokens)-1] {
		if err := m.step(t); err != api.OK {
			return err, t.At
		}
	}
	if err := m.end(); err != api.OK {
		return err, len(s)
	}
	return api.OK, 0
}
