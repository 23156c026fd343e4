package core

import "patois/api"

// asked is what a node's parent asks of it: where to end (at the latest; if it
// is the last child, there), how deep it is, and whether it is to be a word.
type asked struct {
	end, depth int
	last, word bool
}

// program is nodes, and what is asked of each as far as Sizes have told it.
type program struct {
	nodes []api.Node
	asked []asked
}

// newProgram asks of the first node what a program is: a command that ends
// where the list does.
func newProgram(l []api.Node) *program {
	p := &program{l, make([]asked, len(l))}
	p.asked[0] = asked{end: len(l), depth: 1, last: true}
	return p
}

// mayBe answers whether the node at i is what its kind and its parent ask for,
// but for its depth.
func (p *program) mayBe(i int) bool {
	n, a := p.nodes[i], p.asked[i]
	return isOne(n.Kind, a.word) && numberMay(n) && stringMay(n) && countMay(n) && sizeMay(n, a.end-i, a.last)
}

// askKids asks of the children of the node at i what its kind does. It answers
// false if one would begin past the end of the node. A child whose Size is
// below 1 does not tell where the next one is; it is found when it is met.
func (p *program) askKids(i int) bool {
	n := p.nodes[i]
	end := i + n.Size
	at := i + 1
	for k := range n.K {
		if at >= end {
			return false
		}
		p.asked[at] = asked{end: end, depth: p.asked[i].depth + 1, last: k == n.K-1, word: wordAt(n, k)}
		if p.nodes[at].Size < 1 {
			break
		}
		at += min(p.nodes[at].Size, end-at)
	}
	return true
}

func isOne(kind int, word bool) bool {
	if word {
		return Word(kind)
	}
	return Command(kind)
}

// sizeMay answers whether a node's Size fits the room up to its parent's end.
// One without children is nothing but itself.
func sizeMay(n api.Node, room int, last bool) bool {
	switch {
	case n.K == 0 && n.Size != 1:
		return false
	case last:
		return n.Size == room
	}
	return 1 <= n.Size && n.Size <= room
}
