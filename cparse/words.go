package cparse

import (
	"slices"

	"patois/api"
	"patois/core"
	"patois/cscan"
)

const (
	arguments = "*" // the variable that all arguments are
	bracket   = "[" // what stands ahead of a command's text in a word
)

// value answers the tree of a word. Parts of no kind are left out.
func (s spot) value(w cscan.Word) ([]api.Node, error) {
	var parts [][]api.Node
	for _, p := range w.Parts {
		made, err := s.part(p)
		if err != nil {
			return nil, err
		}
		if len(made) > 0 {
			parts = append(parts, made)
		}
	}
	if slices.ContainsFunc(w.Parts, isTooLong) {
		return nil, s.fault(w.At, api.ErrLong)
	}
	return join(parts...), nil
}

// isTooLong answers whether a part becomes a Lit that may not be.
func isTooLong(p cscan.Part) bool { return p.Kind == cscan.PText && len(p.S) > api.MaxString }

// join answers one item that is all of them, one behind the other.
func join(parts ...[]api.Node) []api.Node {
	switch len(parts) {
	case 0:
		return core.Lit("")
	case 1:
		return parts[0]
	}
	return core.New(api.Join, 0, "", parts...)
}

// part answers the tree of a part, one item; none of a part of no kind.
func (s spot) part(p cscan.Part) ([]api.Node, error) {
	switch p.Kind {
	case cscan.PText:
		return core.Lit(p.S), nil
	case cscan.PVar:
		return around(core.New(api.Var, 0, p.S), api.Flat), nil
	case cscan.PNum:
		return around(core.New(api.Pick, p.N, "", core.New(api.Var, 0, arguments)), api.Flat), nil
	case cscan.PSub:
		return s.sub(p)
	}
	return nil, nil
}

// sub answers what is put in the place of a bracket.
func (s spot) sub(p cscan.Part) ([]api.Node, error) {
	if s.deep >= api.MaxNest {
		return nil, s.fault(p.At, api.ErrNest)
	}
	within := spot{base: s.base + p.At + len(bracket), deep: s.deep + 1}
	made, err := within.program(p.S)
	if err != nil {
		return nil, err
	}
	return around(made, api.Sub), nil
}

// around answers the tree in nodes of these kinds, the first innermost.
func around(made []api.Node, kinds ...int) []api.Node {
	for _, kind := range kinds {
		made = core.New(kind, 0, "", made)
	}
	return made
}
