package aparse

import (
	"slices"

	"patois/alex"
	"patois/api"
)

// word parses the next token, which has to be a word, and answers its tree.
func (p *parser) word(read reading) []api.Node {
	if !p.is(alex.TWord) {
		p.misfit()
		return nil
	}
	return p.tree(p.pass(), read)
}

// tree answers the tree of a word, so read.
func (p *parser) tree(t alex.Token, read reading) []api.Node {
	l := p.pieces(t.Parts...)
	if p.err != nil {
		return nil
	}
	made := read(l...)
	if slices.ContainsFunc(made, isTooLong) {
		p.failAt(t.At, api.ErrLong)
	}
	return made
}

// isTooLong answers whether a node is a Lit that may not be.
func isTooLong(n api.Node) bool { return n.Kind == api.Lit && len(n.S) > api.MaxString }

// pieces answers the parts, with the program of each `$(`, up to the first one
// that is none. Parts of no kind are left out.
func (p *parser) pieces(parts ...alex.Part) []piece {
	var l []piece
	for _, part := range parts {
		if part.Kind < alex.PText || part.Kind > alex.PMany {
			continue
		}
		one := piece{Part: part}
		if part.Kind == alex.PSub {
			one.program = p.sub(part)
		}
		if p.err != nil {
			return nil
		}
		l = append(l, one)
	}
	return l
}

// sub answers the program of a `$(`.
func (p *parser) sub(part alex.Part) []api.Node {
	if p.deep >= api.MaxNest {
		p.failAt(part.At, api.ErrNest)
		return nil
	}
	made, err := program(part.S, p.base+part.At+len("$("), p.deep)
	if err != nil {
		p.fail(err)
	}
	return made
}
