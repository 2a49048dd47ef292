package parse

import (
	"padlock/api"
	"padlock/lex"
)

// givenUp is what reading panics with, and nothing else does.
type givenUp api.Fault

// reader has the tokens that were not read yet, the last one being the End, and how deep it is. The End is never read: no rule has it.
type reader struct {
	ahead []lex.Token
	depth int
}

// token answers the next one, which stays.
func (r *reader) token() lex.Token {
	return r.ahead[0]
}

// next reads a token.
func (r *reader) next() lex.Token {
	t := r.ahead[0]
	r.ahead = r.ahead[1:]
	return t
}

// take reads a word or a sign, if it stands next. Its letters tell it from all other tokens, as no name is a word.
func (r *reader) take(text string) bool {
	found := r.token().Text == text
	if found {
		r.next()
	}
	return found
}

// need reads a word or a sign that must stand next.
func (r *reader) need(text string) {
	if !r.take(text) {
		r.refuse()
	}
}

// name reads a name that must stand next.
func (r *reader) name() lex.Token {
	return r.kind(lex.Name)
}

// number reads a whole number that must stand next.
func (r *reader) number() uint64 {
	return r.kind(lex.Int).N
}

// kind reads a token of a kind that must stand next.
func (r *reader) kind(k lex.Kind) lex.Token {
	if r.token().Kind != k {
		r.refuse()
	}
	return r.next()
}

// refuse gives up at the next token, since it can't go on what was read.
func (r *reader) refuse() {
	giveUp(api.ErrSyntax, r.token())
}

// deeper reads what begins a block, a bracket or a prefix. Whoever calls it goes back (shallower) at its end; when reading is given up nobody asks any more.
func (r *reader) deeper(text string) {
	at := r.token()
	r.need(text)
	r.depth++
	if r.depth > api.MaxDepth {
		giveUp(api.ErrSize, at)
	}
}

// shallower ends what deeper began.
func (r *reader) shallower() {
	r.depth--
}

// giveUp ends all reading, however deep it is; Parse catches it.
func giveUp(err api.Errno, at lex.Token) {
	panic(givenUp{Err: err, Line: at.Line, Col: at.Col})
}

// bracketed reads parts with commas between, in round brackets; these make it no deeper.
func bracketed[T any](r *reader, part func() T) []T {
	r.need("(")
	if r.take(")") {
		return nil
	}
	list := []T{part()}
	for !r.take(")") {
		r.need(",")
		list = append(list, part())
	}
	return list
}
