package alex

import (
	"strings"

	"patois/api"
)

// single reads what is between two `'`.
func (r *reader) single() ([]Part, error) {
	from := r.at
	r.at++
	if !r.passSingle() {
		return nil, fails(from, api.ErrQuote)
	}
	return []Part{{Kind: PDead, At: from, S: r.Slice(from+1, r.at-1)}}, nil
}

// double reads what is between two `"`. The first part is dead, also where it is
// empty: a word of nothing but `""` is a word yet.
func (r *reader) double() ([]Part, error) {
	from := r.at
	r.at++
	parts := []Part{{Kind: PDead, At: from, S: r.dead()}}
	for !r.Has(r.at, `"`) {
		if r.ended() {
			return nil, fails(from, api.ErrQuote)
		}
		p, err := r.quoted()
		if err != nil {
			return nil, err
		}
		parts = append(parts, p)
	}
	r.at++
	return parts, nil
}

// quoted reads the part that begins here, between two `"`.
func (r *reader) quoted() (Part, error) {
	if r.dollarAt(r.at) {
		p, err := r.dollar()
		p.Quoted = true
		return p, err
	}
	from := r.at
	return Part{Kind: PDead, At: from, S: r.dead()}, nil
}

// dead reads the bytes between two `"` up to the second, or a dollar's part.
func (r *reader) dead() string {
	var b strings.Builder
	for !r.ended() && !r.Has(r.at, `"`) && !r.dollarAt(r.at) {
		b.WriteString(r.deadByte())
	}
	return b.String()
}

// deadByte reads one byte between two `"`, or a `\` and the one behind it; the
// `\` is gone only where that byte would mean something without it.
func (r *reader) deadByte() string {
	from := r.at
	if !r.Has(from, `\`) {
		r.at++
		return r.Slice(from, r.at)
	}
	r.at = min(from+2, r.Len())
	if c, is := r.Byte(from + 1); is && in(`$"\`, c) {
		from++
	}
	return r.Slice(from, r.at)
}

// passSingle goes past the `'` that ends what is read, and answers whether there
// is one.
func (r *reader) passSingle() bool {
	for {
		c, more := r.take()
		if !more || c == '\'' {
			return more
		}
	}
}

// passDouble goes past the `"` that ends what is read, and answers whether there
// is one.
func (r *reader) passDouble() bool {
	for {
		c, more := r.take()
		switch {
		case !more || c == '"':
			return more
		case c == '\\':
			r.at++
		case c == '$' && r.Has(r.at, "("):
			r.at++
			if !r.passCommand() {
				return false
			}
		}
	}
}
