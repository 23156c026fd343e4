package pattern

import "iter"

// taker is what takes the life of the byte behind it.
const taker = `\`

// letter is a byte of live text.
type letter struct {
	c     byte
	alive bool
}

// is answers whether the letter is c, alive.
func (l letter) is(c byte) bool { return l.alive && l.c == c }

// letters goes through the letters of s, each with the place in s where it, or
// what took its life, stands.
func letters(s string) iter.Seq2[int, letter] {
	return func(yield func(int, letter) bool) {
		for i := 0; i < len(s); {
			l, width := letterOf(s[i:])
			if !yield(i, l) {
				return
			}
			i += width
		}
	}
}

// letterOf answers the first letter of s, which is not empty, and how many
// bytes of s it takes.
func letterOf(s string) (letter, int) {
	switch {
	case s[0] != taker[0]:
		return letter{s[0], true}, 1
	case len(s) == 1:
		return letter{s[0], false}, 1
	default:
		return letter{s[1], false}, 2
	}
}

// live is live text, read.
type live struct {
	letters []letter
	// last is the place of the last living `]`: each `[` asks for it, and looking
	// anew each time would be slow where there are many. 0 if there is none, as
	// one at 0 closes nothing either.
	last int
}

func read(s string) live {
	var t live
	for _, l := range letters(s) {
		if l.is(']') {
			t.last = len(t.letters)
		}
		t.letters = append(t.letters, l)
	}
	return t
}

// opens answers whether the i-th letter is a `[` that is a pattern byte.
func (t live) opens(i int) bool { return t.letters[i].is('[') && t.last > i+1 }

// closing answers the place of the `]` that ends what opens at i. The letter
// right behind the `[` is always within.
func (t live) closing(i int) int {
	end := i + 2
	for !t.letters[end].is(']') {
		end++
	}
	return end
}
