package blex

import (
	"strings"

	"patois/api"
	"patois/text"
)

// wordEnds is what a word goes up to, beside a blank.
const wordEnds = ";&|(){}<>^=!$`'#"

// reader goes through a source from the left. The bytes and names are those of
// the source embedded in it; at is the place that is read next.
type reader struct {
	*text.Source
	at int
}

// token reads the next token. The first one has no Glue: a token that is ahead
// of another has a byte at least, and so ended past the source's beginning.
func (r *reader) token() (Token, error) {
	ended := r.at
	r.passBlanks()
	r.passComment()
	t := Token{Kind: r.sign(), At: r.at, Glue: 0 < ended && ended == r.at}
	if t.Kind != TEnd {
		r.at += len(signs[t.Kind])
		return t, nil
	}
	if r.at == r.Len() {
		return t, nil
	}
	return r.written(t)
}

// written makes t the token that begins here, where no sign stands.
func (r *reader) written(t Token) (Token, error) {
	switch c, _ := r.Byte(r.at); c {
	case '\'':
		return r.dead(t)
	case '$':
		return r.dollar(t)
	case '&', '`':
		return fails(t, api.ErrToken)
	}
	return r.word(t), nil
}

// fails answers the error around the place of the token that cannot be.
func fails(t Token, err error) (Token, error) {
	return Token{}, &api.At{Pos: t.At, Err: err}
}

func (r *reader) passBlanks() {
	for r.Has(r.at, " ") || r.Has(r.at, "\t") {
		r.at++
	}
}

// passComment leaves the newline behind a comment: it is a token.
func (r *reader) passComment() {
	if !r.Has(r.at, "#") {
		return
	}
	for r.at < r.Len() && !r.Has(r.at, signs[TLine]) {
		r.at++
	}
}

// sign answers the kind of the longest sign that stands here, or TEnd.
func (r *reader) sign() int {
	kind := TEnd
	for k, sign := range signs {
		if len(sign) > len(signs[kind]) && r.Has(r.at, sign) {
			kind = k
		}
	}
	return kind
}

// word makes t the word that begins here.
func (r *reader) word(t Token) Token {
	for r.inWord() {
		r.at++
	}
	t.Kind, t.S = TWord, r.Slice(t.At, r.at)
	return t
}

// inWord answers whether the byte here may be one of a word.
func (r *reader) inWord() bool {
	c, is := r.Byte(r.at)
	return is && !text.Blank(c) && strings.IndexByte(wordEnds, c) < 0
}

// dead makes t what is between two quotes, the first of which stands here.
func (r *reader) dead(t Token) (Token, error) {
	for r.at++; !r.quoteEnds(); r.at++ {
		if r.at >= r.Len() {
			return fails(t, api.ErrQuote)
		}
		if r.Has(r.at, quoteTwice) {
			r.at++
		}
	}
	t.Kind, t.S = TDead, strings.ReplaceAll(r.Slice(t.At+1, r.at), quoteTwice, quote)
	r.at++
	return t, nil
}

// quoteEnds answers whether the quote that ends another one stands here.
func (r *reader) quoteEnds() bool { return r.Has(r.at, quote) && !r.Has(r.at, quoteTwice) }

// dollar makes t what the `$` here begins.
func (r *reader) dollar(t Token) (Token, error) {
	switch {
	case r.Has(t.At, countSign):
		return r.variable(t, TCount, countSign)
	case r.Has(t.At, flatSign):
		return r.variable(t, TFlat, flatSign)
	}
	c, _ := r.Byte(t.At + len(varSign))
	if c < '1' || '9' < c {
		return r.variable(t, TVar, varSign)
	}
	r.at += len(varSign) + 1
	t.Kind, t.N = TNum, int(c-'0')
	return t, nil
}

// variable makes t one of that kind, of the variable behind the sign.
func (r *reader) variable(t Token, kind int, sign string) (Token, error) {
	from := t.At + len(sign)
	name := r.Name(from)
	if r.Has(from, everything) {
		name = everything
	} else if !text.Name(name) {
		return fails(t, api.ErrName)
	}
	r.at = from + len(name)
	t.Kind, t.S = kind, name
	return t, nil
}
