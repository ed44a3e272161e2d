package parse

import (
	"cocoon/api"
	"cocoon/lexis"
)

// reader reads tokens one behind the other, each rule by a method. The end is never passed, as no rule has it.
type reader struct {
	tokens []api.Token
	at     int
	deep   int // in how many blocks the next token stands
}

func (r *reader) next() api.Token { return r.tokens[r.at] }

// fail ends the reading: the next token can't stand where it does.
func (r *reader) fail(err api.Errno) {
	panic(fault{err, r.next().At})
}

// takes tells whether the next token is this word or sign, and passes it, if so. No number, and no end, has such a text.
func (r *reader) takes(text string) bool {
	if r.next().Text != text {
		return false
	}
	r.at++
	return true
}

// need passes the word or the sign that must stand here.
func (r *reader) need(text string) {
	if !r.takes(text) {
		r.fail(api.ErrToken)
	}
}

// one passes the token that must stand here.
func (r *reader) one(fits func(api.Token) bool) api.Token {
	t := r.next()
	if !fits(t) {
		r.fail(api.ErrToken)
	}
	r.at++
	return t
}

func free(t api.Token) bool { return t.K == api.TokName && !lexis.Reserved(t.Text) }

func small(t api.Token) bool { return free(t) && !lexis.Upper(t.Text) }

func great(t api.Token) bool { return free(t) && lexis.Upper(t.Text) }

func number(t api.Token) bool { return t.K == api.TokInt }

func (r *reader) small() string { return r.one(small).Text }

func (r *reader) great() string { return r.one(great).Text }

func (r *reader) number() int { return r.one(number).N }

// row is things one right behind the other, up to the sign that ends them; there may be none.
func row[T any](r *reader, end string, thing func() T) []T {
	var l []T
	for !r.takes(end) {
		l = append(l, thing())
	}
	return l
}

// list is a row with a comma between each two things.
func list[T any](r *reader, end string, thing func() T) []T {
	first := true
	return row(r, end, func() T {
		if !first {
			r.need(",")
		}
		first = false
		return thing()
	})
}
