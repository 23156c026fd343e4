package bparse

import (
	"patois/api"
	"patois/blex"
	"patois/core"
)

// parser makes commands of tokens, which it embeds and reads as its own. The
// first error is kept, and all tokens are passed then: what is yet to be parsed
// comes to its end by itself, and nobody has to ask behind each step.
type parser struct {
	tokens
	deep int // how deep in one another stands what is parsed now
	err  error
}

// fail keeps the error around its place, if it is the first.
func (p *parser) fail(at int, err error) {
	if p.err == nil {
		p.err = fault(at, err)
	}
	p.end()
}

// misfit fails at the next token.
func (p *parser) misfit() {
	t := p.next()
	if t.Kind == blex.TEnd {
		p.fail(t.At, api.ErrEnd)
		return
	}
	p.fail(t.At, api.ErrForm)
}

// expect passes the next token, which has to be of this kind.
func (p *parser) expect(kind int) {
	if !p.take(kind) {
		p.misfit()
	}
}

// expectKey passes the next token, which has to be this key.
func (p *parser) expectKey(key string) {
	if !p.takeKey(key) {
		p.misfit()
	}
}

// deeper parses what is nested one more than what it stands in, and begins at
// that place.
func (p *parser) deeper(at int, parse func() []api.Node) []api.Node {
	if p.deep >= api.MaxNest {
		p.fail(at, api.ErrNest)
		return nil
	}
	p.deep++
	made := parse()
	p.deep--
	return made
}

// list parses commands with lines and semicolons around them, up to what ends
// a list.
func (p *parser) list() []api.Node { return p.deeper(p.next().At, p.chains) }

// chains parses what is in a list.
func (p *parser) chains() []api.Node {
	var all [][]api.Node
	p.skip(blex.TLine, blex.TSemi)
	for !p.listEnds() {
		all = append(all, p.chain())
		if !p.is(blex.TLine, blex.TSemi) {
			break
		}
		p.skip(blex.TLine, blex.TSemi)
	}
	return core.Seq(all...)
}

// listEnds answers whether a list ends at the next token, where a chain might
// begin.
func (p *parser) listEnds() bool {
	return p.is(blex.TEnd, blex.TClose, blex.TRight) || p.isKey("case")
}

// chain parses pipes with `&&` and `||` between them.
func (p *parser) chain() []api.Node {
	made := p.pipe()
	for p.is(blex.TAnd, blex.TOr) {
		kind := api.And
		if p.pass().Kind == blex.TOr {
			kind = api.Or
		}
		p.skip(blex.TLine)
		made = core.New(kind, 0, "", made, p.pipe())
	}
	return made
}

// pipe parses commands with `|` between them, and a `!` ahead.
func (p *parser) pipe() []api.Node {
	not := p.take(blex.TNot)
	commands := [][]api.Node{p.command()}
	for p.take(blex.TPipe) {
		p.skip(blex.TLine)
		commands = append(commands, p.command())
	}
	made := commands[0]
	if len(commands) > 1 {
		made = core.New(api.Pipe, 0, "", commands...)
	}
	if not {
		made = core.New(api.Not, 0, "", made)
	}
	return made
}
