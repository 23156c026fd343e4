package core

import (
	"iter"

	"patois/api"
)

// kidPlaces goes through the places of the children of the node at i, as long
// as their Sizes fit within its own and within the list.
func kidPlaces(l []api.Node, i int) iter.Seq[int] {
	return func(yield func(int) bool) {
		if i >= len(l) {
			return
		}
		end := i + min(l[i].Size, len(l)-i)
		at := i + 1
		for range l[i].K {
			if at >= end || l[at].Size < 1 || l[at].Size > end-at || !yield(at) {
				return
			}
			at += l[at].Size
		}
	}
}
