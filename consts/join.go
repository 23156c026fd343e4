package consts

import (
	"slices"

	"patois/api"
	"patois/core"
)

// join answers the Join of the words.
func join(kids ...[]api.Node) []api.Node {
	kids = together(joined(kids...)...)
	if len(kids) == 1 && single(kids[0]) {
		return kids[0]
	}
	return core.New(api.Join, 0, "", kids...)
}

// joined answers the words with the children of a first Join in its place, and
// without what adds nothing. Only a first one is opened: lists are joined from
// the left, and elsewhere another grouping could be another list.
func joined(kids ...[]api.Node) [][]api.Node {
	for {
		if kindOf(kids[0]) == api.Join {
			kids = slices.Concat(core.Kids(kids[0]), kids[1:])
		}
		kids = filled(kids...)
		if kindOf(kids[0]) != api.Join {
			return kids
		}
	}
}

// filled answers the words without empty Lits, from the left, as long as two
// others stay.
func filled(kids ...[]api.Node) [][]api.Node {
	var made [][]api.Node
	left := len(kids)
	for _, kid := range kids {
		if left > 2 && kindOf(kid) == api.Lit && kid[0].S == "" {
			left--
		} else {
			made = append(made, kid)
		}
	}
	return made
}

// together answers the words with neighbouring Lits of one N made one, each
// taking as many as it can hold.
func together(kids ...[]api.Node) [][]api.Node {
	var made [][]api.Node
	for _, kid := range kids {
		last := len(made) - 1
		if last >= 0 && fit(made[last][0], kid[0]) {
			made[last] = lit(kid[0].N, made[last][0].S+kid[0].S)
		} else {
			made = append(made, kid)
		}
	}
	return made
}

// fit answers whether the two nodes are Lits of one N that one string can hold.
func fit(a, b api.Node) bool {
	return a.Kind == api.Lit && b.Kind == api.Lit && a.N == b.N && len(a.S)+len(b.S) <= api.MaxString
}
