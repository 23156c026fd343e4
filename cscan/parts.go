package cscan

import (
	"strings"

	"patois/api"
)

// parts reads a word's parts up to one of the bytes that end it.
func (r *reader) parts(ends string) ([]Part, error) {
	var parts []Part
	for !r.endsAt(ends) {
		p, err := r.part(ends)
		if err != nil {
			return nil, err
		}
		parts = append(parts, p)
	}
	return parts, nil
}

// part reads the part that begins here.
func (r *reader) part(ends string) (Part, error) {
	switch {
	case r.Has(r.at, "["):
		return r.bracket()
	case r.dollarHere():
		return r.dollar()
	}
	return r.plain(ends), nil
}

// bracket reads a command's text up to its `]`.
func (r *reader) bracket() (Part, error) {
	from := r.at
	if !r.passBrackets() {
		return Part{}, fails(from, api.ErrParen)
	}
	return Part{Kind: PSub, At: from, S: r.Slice(from+1, r.at-1)}, nil
}

// dollarHere answers whether a part of its own begins with a `$` here; any other
// `$` is a byte.
func (r *reader) dollarHere() bool {
	if !r.Has(r.at, "$") {
		return false
	}
	c, _ := r.Byte(r.at + 1)
	return c == '*' || counts(c) || r.Name(r.at+1) != ""
}

// counts answers whether c is a digit that an argument has.
func counts(c byte) bool { return '1' <= c && c <= '9' }

// dollar reads the part that a `$` begins here.
func (r *reader) dollar() (Part, error) {
	from := r.at
	c, _ := r.Byte(from + 1)
	r.at += 2
	switch {
	case c == '*':
		return Part{Kind: PVar, At: from, S: everything}, nil
	case counts(c):
		return Part{Kind: PNum, At: from, N: int(c - '0')}, nil
	}
	name := r.Name(from + 1)
	if len(name) > api.MaxName {
		return Part{}, fails(from, api.ErrName)
	}
	r.at = from + 1 + len(name)
	return Part{Kind: PVar, At: from, S: name}, nil
}

// plain reads bytes up to the word's end, or a part of another kind.
func (r *reader) plain(ends string) Part {
	from := r.at
	var b strings.Builder
	for !r.endsAt(ends) && !r.Has(r.at, "[") && !r.dollarHere() {
		b.WriteByte(r.plainByte())
	}
	return Part{Kind: PText, At: from, S: b.String()}
}

// plainByte reads one byte, or a `\` and what it makes of the byte behind it; of
// none, where the source ends, it is itself.
func (r *reader) plainByte() byte {
	c, _ := r.take()
	if c != '\\' || r.ended() {
		return c
	}
	c, _ = r.take()
	switch c {
	case 'n':
		return '\n'
	case 't':
		return '\t'
	}
	return c
}
