package cscan

import (
	"strings"

	"patois/api"
	"patois/text"
)

const (
	blanks   = " \t"             // what parts words
	partings = "\n;"             // what parts commands
	wordEnds = blanks + partings // what a bare word goes up to
	quoteEnd = `"`               // what a quoted word goes up to
)

// reader goes through a source from the left. The bytes and names are those of
// the source embedded in it; at is the place that is read next.
type reader struct {
	*text.Source
	at int
}

// fails answers the error around its place.
func fails(at int, err error) error { return &api.At{Pos: at, Err: err} }

// command reads the words up to what parts commands, and goes past that. There
// may be none.
func (r *reader) command() (Command, error) {
	r.passBlanks()
	r.passComment()
	c := Command{At: r.at}
	for !r.endsAt(partings) {
		w, err := r.word()
		if err != nil {
			return Command{}, err
		}
		c.Words = append(c.Words, w)
		r.passBlanks()
	}
	r.at++
	return c, nil
}

// passBlanks goes past spaces and tabs.
func (r *reader) passBlanks() {
	for !r.ended() && r.endsAt(blanks) {
		r.at++
	}
}

// passComment goes up to the next newline, if a comment begins here.
func (r *reader) passComment() {
	if !r.Has(r.at, "#") {
		return
	}
	for !r.endsAt("\n") {
		r.at++
	}
}

// ended answers whether all is read.
func (r *reader) ended() bool { return r.at >= r.Len() }

// endsAt answers whether one of these bytes is read next, or the source's end.
func (r *reader) endsAt(bytes string) bool {
	c, more := r.Byte(r.at)
	return !more || strings.IndexByte(bytes, c) >= 0
}

// take reads one byte, and whether there is one.
func (r *reader) take() (byte, bool) {
	c, more := r.Byte(r.at)
	r.at++
	return c, more
}

// passBraces goes past the `}` of the `{` that is read next, and answers whether
// there is one.
func (r *reader) passBraces() bool {
	for open := 0; ; {
		c, more := r.take()
		switch c {
		case '\\':
			r.at++
		case '{':
			open++
		case '}':
			open--
		}
		if !more || open == 0 {
			return more
		}
	}
}

// passBrackets goes past the `]` of the `[` that is read next, and answers
// whether there is one. What is in braces opens and closes nothing; a `}` ahead
// of every `{` is a byte.
func (r *reader) passBrackets() bool {
	for open := 0; ; {
		if r.Has(r.at, "{") {
			if !r.passBraces() {
				return false
			}
			continue
		}
		c, more := r.take()
		switch c {
		case '\\':
			r.at++
		case '[':
			open++
		case ']':
			open--
		}
		if !more || open == 0 {
			return more
		}
	}
}
