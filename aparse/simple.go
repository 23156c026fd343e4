package aparse

import (
	"slices"
	"strings"

	"patois/alex"
	"patois/api"
	"patois/core"
	"patois/text"
)

// outer is a node with a word of its own, yet without the command in it.
type outer struct {
	kind, n int
	s       string
	word    []api.Node
}

// around answers the command in all of them, the first outermost.
func around(made []api.Node, l ...outer) []api.Node {
	for _, o := range slices.Backward(l) {
		made = core.New(o.kind, o.n, o.s, o.word, made)
	}
	return made
}

// simple parses settings, words and turns, one at least.
func (p *parser) simple() []api.Node {
	if !p.is(alex.TWord) && !p.isTurn() {
		p.misfit()
		return nil
	}
	var turns, settings []outer
	var words [][]api.Node
	for {
		switch {
		case p.isTurn():
			turns = append(turns, p.turn())
		case !p.is(alex.TWord):
			return around(called(settings, words...), turns...)
		case len(words) == 0 && isSetting(p.next()):
			settings = append(settings, p.setting())
		default:
			words = append(words, p.word(field))
		}
	}
}

// called answers a call of the words with its settings around it. Settings
// without words stay behind the command.
func called(settings []outer, words ...[]api.Node) []api.Node {
	if len(words) > 0 {
		return around(core.New(api.Call, 0, "", words...), settings...)
	}
	var sets [][]api.Node
	for _, o := range settings {
		sets = append(sets, core.New(api.Set, 0, o.s, o.word))
	}
	return core.Seq(sets...)
}

// isSetting answers whether the word begins with a name and a `=`.
func isSetting(t alex.Token) bool {
	if t.Parts[0].Kind != alex.PText {
		return false
	}
	name, _, is := strings.Cut(t.Parts[0].S, "=")
	return is && text.Name(name)
}

// setting parses a setting.
func (p *parser) setting() outer {
	t := p.pass()
	name, rest, _ := strings.Cut(t.Parts[0].S, "=")
	t.Parts = slices.Clone(t.Parts)
	t.Parts[0].S = rest
	return outer{kind: api.Local, s: name, word: p.tree(t, value)}
}

// turns parses turns, as many as there are.
func (p *parser) turns() []outer {
	var l []outer
	for p.isTurn() {
		l = append(l, p.turn())
	}
	return l
}

// isTurn answers whether a turn begins with the next token.
func (p *parser) isTurn() bool {
	return p.is(alex.TIn, alex.TOut, alex.TMore, alex.THere)
}

// turn parses a turn.
func (p *parser) turn() outer {
	o := outer{kind: api.Redir}
	switch p.pass().Kind {
	case alex.TIn:
		o.n = 1
	case alex.TOut:
		o.n = 2
	case alex.TMore:
		o.n = 3
	case alex.THere:
		o.kind = api.Here
	}
	o.word = p.word(value)
	return o
}
