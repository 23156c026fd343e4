package pattern

// set is bytes: byte c is in it if bit c%64 of word c/64 is set.
type set [4]uint64

func (s *set) has(c byte) bool { return s[c/64]>>(c%64)&1 == 1 }

// add puts in the bytes from one to another, none if the first is the greater.
// They are counted as ints, so that a range up to 255 ends.
func (s *set) add(from, to byte) {
	for c := int(from); c <= int(to); c++ {
		s[c/64] |= 1 << (c % 64)
	}
}

// turn puts in what is not in, and takes out what is.
func (s *set) turn() {
	for i := range s {
		s[i] = ^s[i]
	}
}

// piece is what a pattern is made of: any bytes, or one byte of a set.
type piece struct {
	many bool
	one  set
}

// pieces answers what the pattern p is made of.
func pieces(p string) []piece {
	var made []piece
	t := read(p)
	for i := 0; i < len(t.letters); i++ {
		var next piece
		switch l := t.letters[i]; {
		case l.is('*'):
			next.many = true
		case l.is('?'):
			next.one.turn()
		case t.opens(i):
			end := t.closing(i)
			next.one = among(t.letters[i+1 : end])
			i = end
		default:
			next.one.add(l.c, l.c)
		}
		made = append(made, next)
	}
	return made
}

// among answers the bytes that stand for what is between brackets.
func among(l []letter) set {
	var s set
	turned := len(l) > 1 && l[0].is('^')
	if turned {
		l = l[1:]
	}
	for len(l) > 0 {
		if len(l) > 2 && l[1].is('-') {
			s.add(l[0].c, l[2].c)
			l = l[3:]
		} else {
			s.add(l[0].c, l[0].c)
			l = l[1:]
		}
	}
	if turned {
		s.turn()
	}
	return s
}

// matches answers whether the pieces are all of s. Where it goes wrong it goes
// back to the last `*` alone and gives that one byte more: the ones ahead of it
// took as little as they could, which leaves it all that any choice would.
func matches(l []piece, s string) bool {
	next, at := 0, 0
	star, taken := -1, 0
	for at < len(s) {
		switch {
		case next < len(l) && l[next].many:
			star, taken = next, at
			next++
		case next < len(l) && l[next].one.has(s[at]):
			next++
			at++
		case star >= 0:
			taken++
			next, at = star+1, taken
		default:
			return false
		}
	}
	for next < len(l) && l[next].many {
		next++
	}
	return next == len(l)
}
