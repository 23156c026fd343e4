package bparse

import (
	"slices"

	"patois/api"
	"patois/blex"
	"patois/core"
)

// words parses words, as many as there are.
func (p *parser) words(read reading) [][]api.Node {
	var l [][]api.Node
	for p.isItem() {
		l = append(l, p.word(read))
	}
	return l
}

// word parses a word, and answers its tree, so read.
func (p *parser) word(read reading) []api.Node {
	first := p.next()
	l := []item{p.item()}
	for p.goesOn() {
		p.take(blex.TCaret)
		l = append(l, p.item())
	}
	if p.err != nil {
		return nil
	}
	made := read(l...)
	if slices.ContainsFunc(made, isTooLong) {
		p.fail(first.At, api.ErrLong)
	}
	return made
}

// isTooLong answers whether a node is a Lit that may not be.
func isTooLong(n api.Node) bool { return n.Kind == api.Lit && len(n.S) > api.MaxString }

// goesOn answers whether the next token goes on the word ahead of it.
func (p *parser) goesOn() bool {
	return p.is(blex.TCaret) || p.next().Glue && p.isItem()
}

// isItem answers whether an item begins with the next token.
func (p *parser) isItem() bool {
	return p.is(blex.TWord, blex.TDead, blex.TVar, blex.TCount, blex.TFlat, blex.TNum, blex.TOpen, blex.TTick)
}

// item parses an item.
func (p *parser) item() item {
	if !p.isItem() {
		p.misfit()
		return item{}
	}
	t := p.pass()
	switch t.Kind {
	case blex.TOpen:
		return item{Token: t, list: p.deeper(t.At, p.bracket)}
	case blex.TTick:
		return item{Token: t, list: p.sub()}
	}
	return item{Token: t, list: listOf(t)}
}

// bracket parses what is behind the `(` of words.
func (p *parser) bracket() []api.Node {
	words := p.words(plain)
	p.expect(blex.TClose)
	return core.New(api.Cat, 0, "", words...)
}

// sub parses what is behind the tick of a command whose saying is an item.
func (p *parser) sub() []api.Node {
	made := p.list()
	p.expect(blex.TRight)
	return core.New(api.Sub, 0, "", made)
}
