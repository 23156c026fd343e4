package alex

import (
	"patois/api"
	"patois/text"
)

// dollarAt answers whether a part of its own begins with a `$` at i; any other
// `$` is a byte as it is.
func (r *reader) dollarAt(i int) bool {
	if !r.Has(i, "$") {
		return false
	}
	c, _ := r.Byte(i + 1)
	return in("({*#", c) || counts(c) || r.Name(i+1) != ""
}

// counts answers whether c is a digit that an argument has.
func counts(c byte) bool { return '1' <= c && c <= '9' }

// dollar reads the part that a `$` begins here.
func (r *reader) dollar() (Part, error) {
	p := Part{At: r.at}
	c, _ := r.Byte(r.at + 1)
	r.at += 2
	switch {
	case c == '(':
		return r.command(p)
	case c == '{':
		return r.braced(p)
	case c == '*':
		p.Kind, p.S = PVar, everything
	case c == '#':
		p.Kind = PMany
	case counts(c):
		p.Kind, p.N = PNum, int(c-'0')
	default:
		return r.named(p)
	}
	return p, nil
}

// named reads a variable's name behind its `$`.
func (r *reader) named(p Part) (Part, error) {
	name := r.Name(p.At + 1)
	r.at = p.At + 1 + len(name)
	return variable(p, name)
}

// braced reads a variable's name up to its `}`.
func (r *reader) braced(p Part) (Part, error) {
	from := r.at
	for !r.Has(r.at, "}") {
		if r.ended() {
			return Part{}, fails(p.At, api.ErrName)
		}
		r.at++
	}
	r.at++
	return variable(p, r.Slice(from, r.at-1))
}

// variable makes p that of the name, if it is one.
func variable(p Part, name string) (Part, error) {
	if !text.Name(name) {
		return Part{}, fails(p.At, api.ErrName)
	}
	p.Kind, p.S = PVar, name
	return p, nil
}

// command reads a command's text up to its `)`.
func (r *reader) command(p Part) (Part, error) {
	from := r.at
	if !r.passCommand() {
		return Part{}, fails(p.At, api.ErrParen)
	}
	p.Kind, p.S = PSub, r.Slice(from, r.at-1)
	return p, nil
}

// passCommand goes past the `)` that ends a command's text, and answers whether
// there is one. What is quoted opens and closes nothing.
func (r *reader) passCommand() bool {
	for open := 1; open > 0; {
		c, more := r.take()
		switch c {
		case '\\':
			r.at++
		case '\'':
			more = r.passSingle()
		case '"':
			more = r.passDouble()
		case '(':
			open++
		case ')':
			open--
		}
		if !more {
			return false
		}
	}
	return true
}
