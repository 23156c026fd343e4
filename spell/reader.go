package spell

import (
	"patois/api"
	"patois/text"
)

const (
	// maxNest is how deep a text may be nested: past what a program may be, so
	// that Check tells where one is too deep, but bounded.
	maxNest   = 4 * api.MaxNest
	maxDigits = 9
)

// reader makes nodes of the text from its place on.
type reader struct {
	place
	nodes []api.Node
}

// read answers the nodes of which the text is s.
func read(s string) ([]api.Node, error) {
	r := reader{place: place{text: s}}
	if !r.tree(1) || r.at < len(s) {
		return nil, r.fault()
	}
	return r.nodes, nil
}

// tree reads a node at this depth, and all below it. A node past those that a
// program may have is read and not kept: it is refused whatever it is.
func (r *reader) tree(depth int) bool {
	if depth > maxNest || !r.take('(') {
		return false
	}
	n, is := r.node()
	if !is {
		return false
	}
	at := len(r.nodes)
	kept := at <= api.MaxNodes
	if kept {
		r.nodes = append(r.nodes, n)
	}
	kids, is := r.kids(depth + 1)
	if is && kept {
		r.nodes[at].K = kids
		r.nodes[at].Size = len(r.nodes) - at
	}
	return is
}

// node reads what stands ahead of a node's children.
func (r *reader) node() (api.Node, bool) {
	kind, is := r.kind()
	if !is {
		return api.Node{}, false
	}
	n := api.Node{Kind: kind, N: r.number()}
	if hasString(kind) {
		if !r.take(' ') {
			return api.Node{}, false
		}
		n.S, is = r.quoted()
	}
	return n, is
}

// kids reads the children of a node up to its end, and answers how many.
func (r *reader) kids(depth int) (int, bool) {
	n := 0
	for !r.take(')') {
		if !r.take(' ') || !r.tree(depth) {
			return 0, false
		}
		n++
	}
	return n, true
}

// kind reads the name of a kind; where there is none it goes as far as one does.
func (r *reader) kind() (int, bool) {
	longest := 0
	for kind, name := range kindNames {
		n := r.shared(name)
		if n > 0 && n == len(name) {
			r.at += n
			return kind, true
		}
		longest = max(longest, n)
	}
	r.at += longest
	return 0, false
}

// number reads a space and the number behind it; 0, and nothing is read, if
// what is behind the space is something else.
func (r *reader) number() int {
	if !r.in(0, ' ', ' ') || !r.in(1, '1', '9') {
		return 0
	}
	r.at++
	digits := 1
	for digits < maxDigits && r.in(digits, '0', '9') {
		digits++
	}
	n, _ := text.Parse(r.text[r.at : r.at+digits])
	r.at += digits
	return n
}
