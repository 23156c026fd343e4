package bparse

import (
	"slices"

	"patois/blex"
)

// tokens is a source's tokens, the last one its end, and the place in the list
// of the one that is next.
type tokens struct {
	list []blex.Token
	at   int
}

// token answers the one that is so many ahead of the next; behind all of them
// ends go on.
func (t *tokens) token(ahead int) blex.Token {
	if t.at+ahead >= len(t.list) {
		return blex.Token{Kind: blex.TEnd}
	}
	return t.list[t.at+ahead]
}

// next answers the next token, without passing it.
func (t *tokens) next() blex.Token { return t.token(0) }

// pass goes past the next token, and answers it.
func (t *tokens) pass() blex.Token {
	passed := t.next()
	t.at++
	return passed
}

// is answers whether the next token is of one of the kinds.
func (t *tokens) is(kinds ...int) bool { return slices.Contains(kinds, t.next().Kind) }

// isKey answers whether the next token is this key.
func (t *tokens) isKey(key string) bool { return t.is(blex.TWord) && t.next().S == key }

// take passes the next token, if it is of the kind, and answers whether it was.
func (t *tokens) take(kind int) bool {
	if !t.is(kind) {
		return false
	}
	t.pass()
	return true
}

// takeKey passes the next token, if it is this key, and answers whether it was.
func (t *tokens) takeKey(key string) bool {
	if !t.isKey(key) {
		return false
	}
	t.pass()
	return true
}

// skip goes past all tokens of these kinds that are next.
func (t *tokens) skip(kinds ...int) {
	for t.is(kinds...) {
		t.pass()
	}
}

// end goes past all tokens.
func (t *tokens) end() { t.at = len(t.list) }
