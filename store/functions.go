package store

import (
	"maps"
	"slices"

	"patois/api"
)

// functions are programs by names. A program is replaced, never written into, so
// that clones may hold the same one.
type functions struct {
	programs map[string][]api.Node
}

func noFunctions() functions {
	return functions{programs: map[string][]api.Node{}}
}

// Fun answers the program of a name, and whether it has one.
func (f *functions) Fun(name string) ([]api.Node, bool) {
	l, has := f.programs[name]
	return slices.Clone(l), has
}

// SetFun gives a name this program. Whether it may be is not looked at.
func (f *functions) SetFun(name string, l []api.Node) {
	f.programs[name] = slices.Clone(l)
}

// Funs answers the functions' names, rising.
func (f *functions) Funs() []string {
	return slices.Sorted(maps.Keys(f.programs))
}

func (f *functions) clone() functions {
	return functions{programs: maps.Clone(f.programs)}
}
