package consts

import (
	"patois/api"
	"patois/core"
	"patois/pattern"
)

// kindOf is the kind of a tree's first node.
func kindOf(l []api.Node) int { return l[0].Kind }

// single answers whether the word is one item, whatever the run.
func single(l []api.Node) bool {
	switch kindOf(l) {
	case api.Lit, api.Flat, api.Count, api.Sub:
		return true
	}
	return false
}

// lit answers the word that is s, as live text if n is 1.
func lit(n int, s string) []api.Node { return core.New(api.Lit, n, s) }

// cat answers the Cat of the words. Where there is a Sub in one that is not the
// first, too long a list would end the run at another place if it were opened.
func cat(kids ...[]api.Node) []api.Node {
	kids = opened(kids...)
	if len(kids) == 1 {
		return kids[0]
	}
	return core.New(api.Cat, 0, "", kids...)
}

// opened answers the words with the children of each Cat that may be opened in
// its place. Those children have none such among them, as they are worked out,
// so that one way through is enough; but a word is the first, too, if nothing
// came of all those ahead.
func opened(kids ...[]api.Node) [][]api.Node {
	var made [][]api.Node
	for _, kid := range kids {
		if kindOf(kid) == api.Cat && (len(made) == 0 || !core.Has(kid, api.Sub)) {
			made = append(made, core.Kids(kid)...)
		} else {
			made = append(made, kid)
		}
	}
	return made
}

// ofOne answers the Flat, Count or Pick of the word.
func ofOne(n api.Node, kid []api.Node) []api.Node {
	isLit := kindOf(kid) == api.Lit
	switch {
	case n.Kind == api.Count && isLit:
		return lit(0, "1")
	case n.Kind == api.Flat && single(kid), n.Kind == api.Pick && n.N == 1 && single(kid):
		return kid
	case n.Kind == api.Pick && isLit:
		return cat()
	}
	return core.New(n.Kind, n.N, n.S, kid)
}

// ofLit answers the Esc, Plain, Glob or Split of the word: of a Lit mostly what
// the run would make of it.
func ofLit(n api.Node, kid []api.Node) []api.Node {
	stays := core.New(n.Kind, n.N, n.S, kid)
	if kindOf(kid) != api.Lit {
		return stays
	}
	s := kid[0].S
	switch n.Kind {
	case api.Esc:
		if live := pattern.Escape(s); len(live) <= api.MaxString {
			return lit(1, live)
		}
	case api.Plain:
		return lit(0, pattern.Plain(s))
	case api.Glob:
		if !pattern.Live(s) {
			return lit(0, pattern.Plain(s))
		}
	case api.Split:
		return split(stays, pattern.Split(s)...)
	}
	return stays
}

// split answers what a Split of a Lit with these parts is: itself, unless they
// are few enough to be told by one word.
func split(stays []api.Node, parts ...string) []api.Node {
	switch {
	case len(parts) == 0:
		return cat()
	case len(parts) == 1 && pattern.Closed(parts[0]):
		return lit(1, parts[0])
	}
	return stays
}
