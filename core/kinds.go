package core

import (
	"patois/api"
	"patois/pattern"
	"patois/text"
)

const (
	maxPick   = 99
	lastRedir = 3
	arguments = "*"
)

// numberMay answers whether a node of its kind may have its N.
func numberMay(n api.Node) bool {
	switch n.Kind {
	case api.Lit:
		return n.N == 0 || n.N == 1
	case api.Pick:
		return 1 <= n.N && n.N <= maxPick
	case api.Redir:
		return 1 <= n.N && n.N <= lastRedir
	}
	return n.N == 0
}

// stringMay answers whether a node of its kind may have its S. Live text must
// be closed, or its last byte would take the life of what is joined to it.
func stringMay(n api.Node) bool {
	switch n.Kind {
	case api.Lit:
		return len(n.S) <= api.MaxString && (n.N == 0 || pattern.Closed(n.S))
	case api.Var:
		return n.S == arguments || text.Name(n.S)
	case api.Set, api.For, api.Local, api.Fun:
		return text.Name(n.S)
	}
	return n.S == ""
}

// countMay answers whether a node of its kind may have so many children.
func countMay(n api.Node) bool {
	switch n.Kind {
	case api.Lit, api.Var, api.Nop:
		return n.K == 0
	case api.Cat:
		return n.K >= 0
	case api.Join, api.Call, api.Frame:
		return n.K >= 1
	case api.Seq, api.Pipe:
		return n.K >= 2
	case api.If:
		return n.K == 3
	case api.And, api.Or, api.While, api.For, api.Local, api.Redir, api.Here:
		return n.K == 2
	case api.Case:
		return n.K >= 1 && n.K%2 == 1
	}
	return n.K == 1
}

// wordAt answers whether the k-th child, from 0 on, is to be a word; if not, it
// is to be a command.
func wordAt(n api.Node, k int) bool {
	switch n.Kind {
	case api.Call, api.Set, api.Eval:
		return true
	case api.For, api.Local, api.Redir, api.Here:
		return k == 0
	case api.Case:
		return k == 0 || k%2 == 1
	case api.Frame:
		return k < n.K-1
	}
	return Word(n.Kind) && n.Kind != api.Sub
}
