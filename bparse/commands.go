package bparse

import (
	"patois/api"
	"patois/blex"
	"patois/core"
	"patois/text"
)

// command parses one command, by the token that it begins with.
func (p *parser) command() []api.Node {
	t := p.next()
	switch {
	case t.Kind == blex.TLeft:
		made := p.block()
		return around(made, p.turns()...)
	case t.Kind == blex.TWord && Key(t.S):
		return p.keyed()
	}
	return p.simple()
}

// keyed parses a command that begins with a key.
func (p *parser) keyed() []api.Node {
	switch {
	case p.takeKey("if"):
		return p.branches()
	case p.takeKey("while"):
		return p.loop()
	case p.takeKey("for"):
		return p.each()
	case p.takeKey("switch"):
		made := p.cases()
		return around(made, p.turns()...)
	case p.takeKey("fn"):
		return p.function()
	}
	p.misfit()
	return nil
}

// block parses a list between braces.
func (p *parser) block() []api.Node {
	p.expect(blex.TLeft)
	made := p.list()
	p.expect(blex.TRight)
	return made
}

// asked parses the list between brackets that an `if` or a `while` asks.
func (p *parser) asked() []api.Node {
	p.expect(blex.TOpen)
	made := p.list()
	p.expect(blex.TClose)
	return made
}

// body parses the command that a loop, or a branch, is about.
func (p *parser) body() []api.Node {
	p.skip(blex.TLine)
	return p.deeper(p.next().At, p.command)
}

// branches parses what is behind an `if`. The innermost one meets an `else`
// first, and so takes it.
func (p *parser) branches() []api.Node {
	asked := p.asked()
	good, bad := p.body(), core.Seq()
	if p.takeKey("else") {
		bad = p.body()
	}
	return core.New(api.If, 0, "", asked, good, bad)
}

// loop parses what is behind a `while`.
func (p *parser) loop() []api.Node {
	asked := p.asked()
	return core.New(api.While, 0, "", asked, p.body())
}

// each parses what is behind a `for`, whose name may be a key.
func (p *parser) each() []api.Node {
	p.expect(blex.TOpen)
	name := p.name(isName)
	p.expectKey("in")
	words := p.words(plain)
	p.expect(blex.TClose)
	return core.New(api.For, 0, name, together(words...), p.body())
}

// together answers one word that is all of them.
func together(words ...[]api.Node) []api.Node {
	if len(words) == 1 {
		return words[0]
	}
	return core.New(api.Cat, 0, "", words...)
}

// cases parses what is behind a `switch`.
func (p *parser) cases() []api.Node {
	p.expect(blex.TOpen)
	kids := [][]api.Node{core.New(api.Flat, 0, "", p.word(plain))}
	p.expect(blex.TClose)
	p.skip(blex.TLine)
	p.expect(blex.TLeft)
	p.skip(blex.TLine, blex.TSemi)
	for p.takeKey("case") {
		wanted := together(p.words(live)...)
		if !p.take(blex.TLine) {
			p.expect(blex.TSemi)
		}
		kids = append(kids, wanted, p.list())
	}
	p.expect(blex.TRight)
	return core.New(api.Case, 0, "", kids...)
}

// function parses what is behind a `fn`.
func (p *parser) function() []api.Node {
	name := p.name(isFreeName)
	return core.New(api.Fun, 0, name, p.block())
}

// name passes the next token, which has to be such a name.
func (p *parser) name(may func(t blex.Token) bool) string {
	if !may(p.next()) {
		p.misfit()
		return ""
	}
	return p.pass().S
}

// isName answers whether the token is a name.
func isName(t blex.Token) bool { return t.Kind == blex.TWord && text.Name(t.S) }

// isFreeName answers whether the token is a name, and no key.
func isFreeName(t blex.Token) bool { return isName(t) && !Key(t.S) }
