package aparse

import (
	"patois/alex"
	"patois/api"
	"patois/core"
)

// parser makes commands of tokens, which it embeds and reads as its own. The
// first error is kept, and all tokens are passed then: what is yet to be parsed
// comes to its end by itself, and nobody has to ask behind each step.
type parser struct {
	tokens
	base int // where the tokens' text stands in the whole source
	deep int // in how many lists stands what is parsed now
	err  error
}

// fail keeps the error, if it is the first.
func (p *parser) fail(err error) {
	if p.err == nil {
		p.err = err
	}
	p.end()
}

// failAt is fail of an error around a place in the tokens' text.
func (p *parser) failAt(at int, err error) { p.fail(fault(p.base+at, err)) }

// misfit fails at the next token.
func (p *parser) misfit() {
	t := p.next()
	if t.Kind == alex.TEnd {
		p.failAt(t.At, api.ErrEnd)
		return
	}
	p.failAt(t.At, api.ErrForm)
}

// expect passes the next token, which has to be of this kind.
func (p *parser) expect(kind int) {
	if !p.take(kind) {
		p.misfit()
	}
}

// expectKey passes the next token, which has to be this key.
func (p *parser) expectKey(key string) {
	if !p.takeKey(key) {
		p.misfit()
	}
}

// list parses commands with lines and semicolons around them, up to what ends
// a list.
func (p *parser) list() []api.Node {
	if p.deep >= api.MaxNest {
		p.failAt(p.next().At, api.ErrNest)
		return nil
	}
	p.deep++
	var chains [][]api.Node
	p.skip(alex.TLine, alex.TSemi)
	for !p.listEnds() {
		chains = append(chains, p.chain())
		if !p.is(alex.TLine, alex.TSemi) {
			break
		}
		p.skip(alex.TLine, alex.TSemi)
	}
	p.deep--
	return core.Seq(chains...)
}

// listEnds answers whether a list ends at the next token, where a chain might
// begin.
func (p *parser) listEnds() bool {
	s, bare := alex.Bare(p.next())
	return p.is(alex.TEnd, alex.TClose, alex.TCase) || bare && endsList(s)
}

// endsList answers whether a list ends at this key.
func endsList(s string) bool {
	switch s {
	case "then", "else", "fi", "do", "done", "esac", "}":
		return true
	}
	return false
}

// chain parses pipes with `&&` and `||` between them.
func (p *parser) chain() []api.Node {
	made := p.pipe()
	for p.is(alex.TAnd, alex.TOr) {
		kind := api.And
		if p.pass().Kind == alex.TOr {
			kind = api.Or
		}
		p.skip(alex.TLine)
		made = core.New(kind, 0, "", made, p.pipe())
	}
	return made
}

// pipe parses commands with `|` between them, and a `!` ahead.
func (p *parser) pipe() []api.Node {
	not := p.takeKey("!")
	commands := [][]api.Node{p.command()}
	for p.take(alex.TPipe) {
		p.skip(alex.TLine)
		commands = append(commands, p.command())
	}
	made := commands[0]
	if len(commands) > 1 {
		made = core.New(api.Pipe, 0, "", commands...)
	}
	if not {
		made = core.New(api.Not, 0, "", made)
	}
	return made
}
