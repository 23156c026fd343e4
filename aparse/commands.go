package aparse

import (
	"patois/alex"
	"patois/api"
	"patois/core"
	"patois/text"
)

// command parses one command, by the word that it begins with.
func (p *parser) command() []api.Node {
	s, bare := alex.Bare(p.next())
	switch {
	case bare && Key(s):
		return p.keyed()
	case bare && text.Name(s) && p.token(1).Kind == alex.TOpen:
		return p.function()
	}
	return p.simple()
}

// keyed parses a command that begins with a key, and the turns behind it.
func (p *parser) keyed() []api.Node {
	var made []api.Node
	switch {
	case p.isKey("{"):
		made = p.block()
	case p.takeKey("if"):
		made = p.branches()
	case p.takeKey("while"):
		made = p.loop()
	case p.takeKey("for"):
		made = p.items()
	case p.takeKey("case"):
		made = p.cases()
	default:
		p.misfit()
	}
	return around(made, p.turns()...)
}

// block parses a list between braces.
func (p *parser) block() []api.Node {
	p.expectKey("{")
	made := p.list()
	p.expectKey("}")
	return made
}

// branches parses what is behind an `if`.
func (p *parser) branches() []api.Node {
	asked := p.list()
	p.expectKey("then")
	good, bad := p.list(), core.Seq()
	if p.takeKey("else") {
		bad = p.list()
	}
	p.expectKey("fi")
	return core.New(api.If, 0, "", asked, good, bad)
}

// loop parses what is behind a `while`.
func (p *parser) loop() []api.Node {
	asked := p.list()
	return core.New(api.While, 0, "", asked, p.body())
}

// body parses a loop's list.
func (p *parser) body() []api.Node {
	p.expectKey("do")
	made := p.list()
	p.expectKey("done")
	return made
}

// items parses what is behind a `for`. A `do` right behind words is one of
// them, so that these go up to the first token that is none.
func (p *parser) items() []api.Node {
	name := p.name()
	p.expectKey("in")
	var words [][]api.Node
	for p.is(alex.TWord) {
		words = append(words, p.word(field))
	}
	p.skip(alex.TLine, alex.TSemi)
	return core.New(api.For, 0, name, together(words...), p.body())
}

// together answers one word that is all of them.
func together(words ...[]api.Node) []api.Node {
	if len(words) == 1 {
		return words[0]
	}
	return core.New(api.Cat, 0, "", words...)
}

// cases parses what is behind a `case`.
func (p *parser) cases() []api.Node {
	kids := [][]api.Node{p.word(value)}
	p.skip(alex.TLine)
	p.expectKey("in")
	p.skip(alex.TLine)
	for p.err == nil && !p.takeKey("esac") {
		p.take(alex.TOpen)
		wanted := p.word(live)
		p.expect(alex.TClose)
		kids = append(kids, wanted, p.list())
		p.take(alex.TCase)
		p.skip(alex.TLine)
	}
	return core.New(api.Case, 0, "", kids...)
}

// function parses a function, its name and its body.
func (p *parser) function() []api.Node {
	name := p.name()
	p.expect(alex.TOpen)
	p.expect(alex.TClose)
	p.skip(alex.TLine)
	return core.New(api.Fun, 0, name, p.block())
}

// name passes the next token, which has to be a name.
func (p *parser) name() string {
	s, bare := alex.Bare(p.next())
	if !bare || !text.Name(s) {
		p.misfit()
		return ""
	}
	p.pass()
	return s
}
