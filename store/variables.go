package store

import (
	"maps"
	"slices"

	"patois/api"
)

// arguments is the name that stands for the arguments. It always has a list, so
// that they are got and set as any variable is.
const arguments = "*"

// variables are lists by names. A list is replaced, never written into, so that
// clones may hold the same one.
type variables struct {
	lists map[string][]string
}

func noVariables() variables {
	return variables{lists: map[string][]string{arguments: nil}}
}

// Get answers the list of a name, and whether it has one.
func (v *variables) Get(name string) ([]string, bool) {
	l, has := v.lists[name]
	return slices.Clone(l), has
}

// Set gives a name this list.
func (v *variables) Set(name string, l ...string) {
	v.lists[name] = slices.Clone(l)
}

// Unset takes a name's list from it; the arguments are none then.
func (v *variables) Unset(name string) {
	if name == arguments {
		v.Set(arguments)
		return
	}
	delete(v.lists, name)
}

// Swap answers what Get says; then the name has this list, or, if has is false,
// none.
func (v *variables) Swap(name string, has bool, l ...string) ([]string, bool) {
	before, had := v.Get(name)
	if has {
		v.Set(name, l...)
	} else {
		v.Unset(name)
	}
	return before, had
}

// Args answers the arguments.
func (v *variables) Args() []string {
	l, _ := v.Get(arguments)
	return l
}

// SetArgs makes these the arguments, and answers those of before.
func (v *variables) SetArgs(l ...string) []string {
	before, _ := v.Swap(arguments, true, l...)
	return before
}

// Vars answers the variables by names, without the arguments.
func (v *variables) Vars() []api.Value {
	var all []api.Value
	for _, name := range slices.Sorted(maps.Keys(v.lists)) {
		if name != arguments {
			all = append(all, api.Value{Name: name, L: slices.Clone(v.lists[name])})
		}
	}
	return all
}

func (v *variables) clone() variables {
	return variables{lists: maps.Clone(v.lists)}
}
