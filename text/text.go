// Package text: sources, names, places: see ../shared/doc/01-text.md.
package text

import (
	"strconv"

	"patois/api"
)

// maxDigits is how many digits Parse takes: a number of so many fits every int.
const maxDigits = 9

// Source is the text of a program. Its bytes and places are asked of the body
// that is embedded in it; names are the source's own.
type Source struct{ body }

// New makes a source of s, or answers ErrLong if s is longer than MaxSource.
func New(s string) (*Source, error) {
	if len(s) > api.MaxSource {
		return nil, api.ErrLong
	}
	return &Source{body{s}}, nil
}

// Name answers the longest run of bytes from i on of which a name could be
// made. It may be longer than MaxName: whoever asks tells where it is too long.
func (s *Source) Name(i int) string {
	c, is := s.Byte(i)
	if !is || !startsName(c) {
		return ""
	}
	end := i
	for is && continuesName(c) {
		end++
		c, is = s.Byte(end)
	}
	return s.Slice(i, end)
}

// Name answers whether s is a name.
func Name(s string) bool {
	if s == "" || len(s) > api.MaxName || !startsName(s[0]) {
		return false
	}
	for i := range len(s) {
		if !continuesName(s[i]) {
			return false
		}
	}
	return true
}

// Blank answers whether c is a space, a tab or a newline.
func Blank(c byte) bool { return c == ' ' || c == '\t' || c == '\n' }

// Number answers the decimal text of n.
func Number(n int) string { return strconv.Itoa(n) }

// Parse answers the number, 0 to 999999999, whose text s is.
func Parse(s string) (int, bool) {
	if s == "" || len(s) > maxDigits || s[0] == '0' && len(s) > 1 {
		return 0, false
	}
	n := 0
	for i := range len(s) {
		if !digit(s[i]) {
			return 0, false
		}
		n = n*10 + int(s[i]-'0')
	}
	return n, true
}

func startsName(c byte) bool {
	return 'a' <= c && c <= 'z' || 'A' <= c && c <= 'Z' || c == '_'
}

func continuesName(c byte) bool { return startsName(c) || digit(c) }

func digit(c byte) bool { return '0' <= c && c <= '9' }
