package bparse

import (
	"slices"

	"patois/api"
	"patois/blex"
	"patois/core"
)

// outer is a node with a word of its own, yet without the command in it.
type outer struct {
	kind, n int
	s       string
	word    []api.Node
}

// around answers the command in all of them, the first outermost.
func around(made []api.Node, l ...outer) []api.Node {
	for _, o := range slices.Backward(l) {
		made = core.New(o.kind, o.n, o.s, o.word, made)
	}
	return made
}

// simple parses settings, and behind them words and turns; one of these at
// least.
func (p *parser) simple() []api.Node {
	if !p.isWord() && !p.isTurn() {
		p.misfit()
		return nil
	}
	var turns, settings []outer
	var words [][]api.Node
	for p.isSetting() {
		settings = append(settings, p.setting())
	}
	for {
		switch {
		case p.isTurn():
			turns = append(turns, p.turn())
		case p.isWord():
			words = append(words, p.word(plain))
		default:
			return around(called(settings, words...), turns...)
		}
	}
}

// isWord answers whether a word of a simple command begins with the next token.
func (p *parser) isWord() bool { return p.isItem() && !p.isKey("else") }

// called answers a call of the words with its settings around it. Settings
// without words stay behind the command.
func called(settings []outer, words ...[]api.Node) []api.Node {
	if len(words) > 0 {
		return around(core.New(api.Call, 0, "", words...), settings...)
	}
	var sets [][]api.Node
	for _, o := range settings {
		sets = append(sets, core.New(api.Set, 0, o.s, o.word))
	}
	return core.Seq(sets...)
}

// isSetting answers whether a setting begins with the next token.
func (p *parser) isSetting() bool {
	return isFreeName(p.next()) && p.token(1).Kind == blex.TIs
}

// setting parses a setting.
func (p *parser) setting() outer {
	name := p.name(isFreeName)
	p.expect(blex.TIs)
	return outer{kind: api.Local, s: name, word: p.word(plain)}
}

// turns parses turns, as many as there are.
func (p *parser) turns() []outer {
	var l []outer
	for p.isTurn() {
		l = append(l, p.turn())
	}
	return l
}

// isTurn answers whether a turn begins with the next token.
func (p *parser) isTurn() bool {
	return p.is(blex.TIn, blex.TOut, blex.TMore, blex.THere)
}

// turn parses a turn.
func (p *parser) turn() outer {
	o := outer{kind: api.Redir}
	switch p.pass().Kind {
	case blex.TIn:
		o.n = 1
	case blex.TOut:
		o.n = 2
	case blex.TMore:
		o.n = 3
	case blex.THere:
		o.kind = api.Here
	}
	o.word = p.word(plain)
	return o
}
