package text

import "strings"

const newline = "\n"

// body is the bytes of a source, and where they lie. Its methods have pointer
// receivers, so that *Source has them and a bare Source does not.
type body struct{ all string }

// Len answers how many bytes there are.
func (b *body) Len() int { return len(b.all) }

// Byte answers the i-th byte, from 0 on, and whether there is one.
func (b *body) Byte(i int) (byte, bool) {
	if i < 0 || i >= len(b.all) {
		return 0, false
	}
	return b.all[i], true
}

// Slice answers the bytes from one place up to, not with, another; places
// outside count as the nearest end.
func (b *body) Slice(from, to int) string {
	from, to = b.within(from), b.within(to)
	if to <= from {
		return ""
	}
	return b.all[from:to]
}

// Has answers whether t stands at i, which may be Len where t is empty.
func (b *body) Has(i int, t string) bool {
	return b.isPlace(i) && strings.HasPrefix(b.all[i:], t)
}

// Place answers the line and the column, each from 1 on, of the i-th byte, or
// of where one more would stand; 0 and 0 if i is no such place.
func (b *body) Place(i int) (int, int) {
	if !b.isPlace(i) {
		return 0, 0
	}
	// A newline is the last byte of its line, so only those ahead of i count;
	// LastIndex's -1 makes the first line's columns begin at 1 as well.
	ahead := b.all[:i]
	return countLines(ahead), i - strings.LastIndex(ahead, newline)
}

// Lines answers one more than there are newlines.
func (b *body) Lines() int { return countLines(b.all) }

func (b *body) isPlace(i int) bool { return 0 <= i && i <= len(b.all) }

func (b *body) within(i int) int { return min(max(i, 0), len(b.all)) }

func countLines(s string) int { return strings.Count(s, newline) + 1 }
