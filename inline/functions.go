package inline

import (
	"maps"
	"slices"

	"patois/api"
	"patois/core"
)

// functions are those that a program's names can only be, by these names.
type functions map[string]function

// function is a function's command, and how deep that goes.
type function struct {
	command []api.Node
	depth   int
}

// functionsOf answers the functions that are made ahead of all other commands of
// a Seq and are never made anew: none, if an Eval may make some.
func functionsOf(l []api.Node) functions {
	made := functions{}
	if core.Check(l) != nil || l[0].Kind != api.Seq || core.Has(l, api.Eval) {
		return made
	}
	counts := funs(l)
	commands := core.Kids(l)
	for _, fun := range commands[:leading(commands)] {
		if name := fun[0].S; counts[name] == 1 {
			command := core.Kids(fun)[0]
			made[name] = function{command: command, depth: core.Depth(command)}
		}
	}
	return made
}

// funs counts the Funs of each name, wherever they stand.
func funs(l []api.Node) map[string]int {
	counts := map[string]int{}
	for _, n := range l {
		if n.Kind == api.Fun {
			counts[n.S]++
		}
	}
	return counts
}

// leading answers how many Funs stand ahead of all other commands.
func leading(commands [][]api.Node) int {
	for i, command := range commands {
		if command[0].Kind != api.Fun {
			return i
		}
	}
	return len(commands)
}

// names answers the functions' names, rising.
func (f functions) names() []string { return slices.Sorted(maps.Keys(f)) }

// called answers the function that a command of these parts calls, if it is a
// Call of one. Whether the name is live text is the same: it is what it says.
func (f functions) called(n api.Node, parts ...[]api.Node) (function, bool) {
	if n.Kind != api.Call || parts[0][0].Kind != api.Lit {
		return function{}, false
	}
	found, is := f[parts[0][0].S]
	return found, is
}
