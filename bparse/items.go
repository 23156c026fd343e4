package bparse

import (
	"patois/api"
	"patois/blex"
	"patois/core"
	"patois/pattern"
)

const (
	alive = 1 // the N of a Lit whose text is live

	taker     = `\` // what takes the life of the byte behind it
	arguments = "*" // the variable that all arguments are
)

// item is a part of a word: its first token, and, if it is no text, the tree of
// the list that is put in its place.
type item struct {
	blex.Token
	list []api.Node
}

// listOf answers the list that is put in the place of a dollar's token; of text
// there is none.
func listOf(t blex.Token) []api.Node {
	switch t.Kind {
	case blex.TVar:
		return variable(t.S)
	case blex.TCount:
		return core.New(api.Count, 0, "", variable(t.S))
	case blex.TFlat:
		return core.New(api.Flat, 0, "", variable(t.S))
	case blex.TNum:
		return core.New(api.Pick, t.N, "", variable(arguments))
	}
	return nil
}

func variable(name string) []api.Node { return core.New(api.Var, 0, name) }

// reading is a way to make a tree of a word's items.
type reading func(l ...item) []api.Node

// plain reads a word as items, none of which is looked at again: only where it
// is one word that is not quoted may it be a pattern.
func plain(l ...item) []api.Node {
	if len(l) == 1 && l[0].Kind == blex.TWord && pattern.Live(l[0].S) {
		return core.New(api.Glob, 0, "", liveOf(l[0]))
	}
	return join(trees(plainOf, l...)...)
}

// live reads a word as patterns.
func live(l ...item) []api.Node { return join(trees(liveOf, l...)...) }

// trees answers the tree of each item.
func trees(of func(i item) []api.Node, l ...item) [][]api.Node {
	var all [][]api.Node
	for _, i := range l {
		all = append(all, of(i))
	}
	return all
}

// plainOf answers an item as it is.
func plainOf(i item) []api.Node {
	switch i.Kind {
	case blex.TWord, blex.TDead:
		return core.Lit(i.S)
	}
	return i.list
}

// liveOf answers an item of a pattern, in which only what is not quoted is
// alive.
func liveOf(i item) []api.Node {
	switch i.Kind {
	case blex.TWord:
		return core.New(api.Lit, alive, closed(i.S))
	case blex.TDead:
		return core.New(api.Lit, alive, pattern.Escape(i.S))
	}
	return core.New(api.Esc, 0, "", i.list)
}

// closed answers live text whose last byte does not take the life of what is
// joined to it.
func closed(s string) string {
	if pattern.Closed(s) {
		return s
	}
	return s + taker
}

// join answers the trees joined. Neighbouring Lits, all of which have the same
// N, become one, also where they are empty.
func join(trees ...[]api.Node) []api.Node {
	var joined [][]api.Node
	for _, tree := range trees {
		last := len(joined) - 1
		if last < 0 || !isText(tree) || !isText(joined[last]) {
			joined = append(joined, tree)
			continue
		}
		joined[last] = core.New(api.Lit, tree[0].N, joined[last][0].S+tree[0].S)
	}
	if len(joined) == 1 {
		return joined[0]
	}
	return core.New(api.Join, 0, "", joined...)
}

func isText(tree []api.Node) bool { return tree[0].Kind == api.Lit }
