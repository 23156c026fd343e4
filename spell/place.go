package spell

import (
	"strings"

	"patois/api"
)

const hexDigits = "0123456789abcdef"

// place is where in its text a reader stands. What does not fit leaves it at
// the first byte that does not, so that the fault is told from the place alone.
type place struct {
	text string
	at   int
}

// fault answers the error of a reader that cannot go on here.
func (p *place) fault() error {
	if p.at == len(p.text) {
		return &api.At{Pos: p.at, Err: api.ErrEnd}
	}
	return &api.At{Pos: p.at, Err: api.ErrForm}
}

// in answers whether the byte that is d bytes ahead is from low to high.
func (p *place) in(d int, low, high byte) bool {
	i := p.at + d
	return i < len(p.text) && low <= p.text[i] && p.text[i] <= high
}

// take passes over c, if that is the next byte.
func (p *place) take(c byte) bool {
	if !p.in(0, c, c) {
		return false
	}
	p.at++
	return true
}

// shared answers how many bytes s and the text from here on begin with alike.
func (p *place) shared(s string) int {
	n := 0
	for n < len(s) && p.in(n, s[n], s[n]) {
		n++
	}
	return n
}

// quoted reads what Quote answers.
func (p *place) quoted() (string, bool) {
	if !p.take('"') {
		return "", false
	}
	var out strings.Builder
	for !p.take('"') {
		c, is := p.quotedByte()
		if !is {
			return "", false
		}
		out.WriteByte(c)
	}
	return out.String(), true
}

// quotedByte reads one byte as Quote puts it.
func (p *place) quotedByte() (byte, bool) {
	if p.take('\\') {
		return p.escape()
	}
	if p.at == len(p.text) || escaped(p.text[p.at]) {
		return 0, false
	}
	p.at++
	return p.text[p.at-1], true
}

// escape reads the two digits of a byte that Quote does not leave as it is.
func (p *place) escape() (byte, bool) {
	high, is := p.hexDigit()
	if !is || !beginsEscape(high) {
		return 0, false
	}
	p.at++
	low, is := p.hexDigit()
	c := high<<4 | low
	if !is || !escaped(c) {
		return 0, false
	}
	p.at++
	return c, true
}

// hexDigit answers the value of the digit that is next, without passing it.
func (p *place) hexDigit() (byte, bool) {
	if p.at == len(p.text) {
		return 0, false
	}
	value := strings.IndexByte(hexDigits, p.text[p.at])
	return byte(max(value, 0)), value >= 0
}

// beginsEscape answers whether a byte whose first digit this is is escaped.
func beginsEscape(high byte) bool {
	for low := range byte(16) {
		if escaped(high<<4 | low) {
			return true
		}
	}
	return false
}

// escaped answers whether Quote does not leave c as it is.
func escaped(c byte) bool { return c < ' ' || c > '~' || c == '"' || c == '\\' }
