package cscan

import "patois/api"

// word reads the word that begins here.
func (r *reader) word() (Word, error) {
	switch {
	case r.Has(r.at, "{"):
		return r.braced()
	case r.Has(r.at, `"`):
		return r.quoted()
	}
	return r.bare()
}

// braced reads what is between two braces, as it stands.
func (r *reader) braced() (Word, error) {
	from := r.at
	if !r.passBraces() {
		return Word{}, fails(from, api.ErrBrace)
	}
	between := Part{Kind: PText, At: from + 1, S: r.Slice(from+1, r.at-1)}
	return r.closed(Word{At: from, Braced: true, Parts: []Part{between}})
}

// quoted reads what is between two quotes. A part is there also where they have
// nothing between them: it is a word yet.
func (r *reader) quoted() (Word, error) {
	from := r.at
	r.at++
	parts, err := r.parts(quoteEnd)
	if err != nil {
		return Word{}, err
	}
	if r.ended() {
		return Word{}, fails(from, api.ErrQuote)
	}
	r.at++
	if len(parts) == 0 {
		parts = []Part{{Kind: PText, At: from}}
	}
	return r.closed(Word{At: from, Parts: parts})
}

// closed answers the word whose last brace or quote was just read, if nothing
// stands right behind that.
func (r *reader) closed(w Word) (Word, error) {
	if !r.endsAt(wordEnds) {
		return Word{}, fails(r.at, api.ErrToken)
	}
	return w, nil
}

// bare reads a word in which braces and quotes are bytes.
func (r *reader) bare() (Word, error) {
	from := r.at
	parts, err := r.parts(wordEnds)
	if err != nil {
		return Word{}, err
	}
	return Word{At: from, Parts: parts}, nil
}
