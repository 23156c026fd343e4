package alex

import (
	"strings"

	"patois/api"
	"patois/text"
)

const (
	wordEnds = " \t\n;&|()<>"   // what a word goes up to
	textEnds = wordEnds + `\'"` // what living text goes up to, beside a dollar's part
)

// reader goes through a source from the left. The bytes and names are those of
// the source embedded in it; at is the place that is read next.
type reader struct {
	*text.Source
	at int
}

// fails answers the error around its place.
func fails(at int, err error) error { return &api.At{Pos: at, Err: err} }

// token reads the next token.
func (r *reader) token() (Token, error) {
	r.passOver()
	t := Token{Kind: r.sign(), At: r.at}
	if t.Kind != TEnd {
		r.at += len(signs[t.Kind])
		return t, nil
	}
	c, more := r.Byte(r.at)
	if !more {
		return t, nil
	}
	if c == '&' {
		return Token{}, fails(r.at, api.ErrToken)
	}
	parts, err := r.word()
	if err != nil {
		return Token{}, err
	}
	t.Kind, t.Parts = TWord, parts
	return t, nil
}

// passOver goes past what is no token: spaces, tabs, a comment.
func (r *reader) passOver() {
	for r.Has(r.at, " ") || r.Has(r.at, "\t") {
		r.at++
	}
	if !r.Has(r.at, "#") {
		return
	}
	for !r.ended() && !r.Has(r.at, "\n") {
		r.at++
	}
}

// sign answers the kind of the longest sign that stands here, or TEnd.
func (r *reader) sign() int {
	kind := TEnd
	for k, sign := range signs {
		if len(sign) > len(signs[kind]) && r.Has(r.at, sign) {
			kind = k
		}
	}
	return kind
}

// word reads the parts of a word.
func (r *reader) word() ([]Part, error) {
	var parts []Part
	for {
		c, more := r.Byte(r.at)
		if !more || in(wordEnds, c) {
			return parts, nil
		}
		some, err := r.parts(c)
		if err != nil {
			return nil, err
		}
		parts = append(parts, some...)
	}
}

// parts reads what begins here, with c, outside of all quotes.
func (r *reader) parts(c byte) ([]Part, error) {
	switch {
	case c == '\\':
		return []Part{r.escaped()}, nil
	case c == '\'':
		return r.single()
	case c == '"':
		return r.double()
	case r.dollarAt(r.at):
		p, err := r.dollar()
		return []Part{p}, err
	}
	return []Part{r.living()}, nil
}

// living reads the text up to the word's end, or what is not living text.
func (r *reader) living() Part {
	from := r.at
	for {
		c, more := r.Byte(r.at)
		if !more || in(textEnds, c) || r.dollarAt(r.at) {
			return Part{Kind: PText, At: from, S: r.Slice(from, r.at)}
		}
		r.at++
	}
}

// escaped reads a `\` and the byte that it takes the life of, or, where the
// source ends, itself.
func (r *reader) escaped() Part {
	from := r.at
	r.at = min(from+2, r.Len())
	return Part{Kind: PDead, At: from, S: r.Slice(r.at-1, r.at)}
}

// ended answers whether all is read.
func (r *reader) ended() bool { return r.at >= r.Len() }

// take reads one byte, and whether there is one.
func (r *reader) take() (byte, bool) {
	c, more := r.Byte(r.at)
	r.at++
	return c, more
}

// in answers whether c is one of these bytes.
func in(bytes string, c byte) bool { return strings.IndexByte(bytes, c) >= 0 }
