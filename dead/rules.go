package dead

import (
	"patois/api"
	"patois/core"
)

// is answers whether a tree's first node is of the kind.
func is(l []api.Node, kind int) bool { return l[0].Kind == kind }

// seq answers the commands one behind the other. A Nop at the end stays, as its
// status is that of all.
func seq(kids ...[]api.Node) []api.Node {
	all := opened(kids...)
	var made [][]api.Node
	for i, kid := range all {
		if i == len(all)-1 || !is(kid, api.Nop) {
			made = append(made, kid)
		}
	}
	return core.Seq(made...)
}

// opened answers the commands with the children of each Seq in its place. Those
// have no Seqs among them, as they are passed.
func opened(kids ...[]api.Node) [][]api.Node {
	var made [][]api.Node
	for _, kid := range kids {
		if is(kid, api.Seq) {
			made = append(made, core.Kids(kid)...)
		} else {
			made = append(made, kid)
		}
	}
	return made
}

// choice answers the If, And or Or that asks the first of the commands.
func choice(n api.Node, kids ...[]api.Node) []api.Node {
	first := kids[0]
	switch {
	case n.Kind == api.Or && is(first, api.Nop):
		return first
	case is(first, api.Nop):
		return kids[1]
	case n.Kind == api.If && is(first, api.Not):
		return put(n, core.Kids(first)[0], kids[2], kids[1])
	}
	return core.New(n.Kind, n.N, n.S, kids...)
}

// not answers the opposite of the command. Two Nots by themselves stay: they
// make 1 of every status but 0.
func not(n api.Node, kid []api.Node) []api.Node {
	if is(kid, api.Not) {
		if below := core.Kids(kid)[0]; is(below, api.Not) {
			return below
		}
	}
	return core.New(n.Kind, n.N, n.S, kid)
}

// worded answers the Here, Local or Case of its word, which is the first of the
// kids, and the others: none, if it is a Case without pairs.
func worded(n api.Node, kids ...[]api.Node) []api.Node {
	if Silent(kids[0]) {
		switch {
		case len(kids) == 1 || is(kids[1], api.Nop):
			return core.Seq()
		case n.Kind == api.Here && is(kids[1], api.Here) && Silent(core.Kids(kids[1])[0]):
			return kids[1]
		}
	}
	return core.New(n.Kind, n.N, n.S, kids...)
}
