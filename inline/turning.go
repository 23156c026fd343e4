package inline

import (
	"patois/api"
	"patois/core"
)

// mostInAll is how many nodes a program may have in which a call is made a frame.
const mostInAll = 1000

// turning is a pass under way. The functions are embedded in it, and are asked
// as its own; size is how many nodes the program has by now.
type turning struct {
	functions
	size int
}

// turned answers a tree of the program, whose first node is as deep as told, with
// its calls made frames. What is in a call's words comes ahead of the call, and
// may leave no room for it. What is put in is not looked at: it may call itself.
func (t *turning) turned(l []api.Node, depth int) []api.Node {
	n, kids := l[0], core.Kids(l)
	for i, kid := range kids {
		kids[i] = t.turned(kid, depth+1)
	}
	if f, is := t.called(n, kids...); is && t.takes(f, depth) {
		return core.New(api.Frame, 0, "", append(kids[1:], f.command)...)
	}
	return core.New(n.Kind, n.N, n.S, kids...)
}

// takes answers whether a call, as deep as told, may be a frame of the function's
// command, and counts the nodes that this makes: the command's, but the name goes.
func (t *turning) takes(f function, depth int) bool {
	size := t.size + len(f.command) - 1
	if len(f.command) > most || size > mostInAll || depth+f.depth > api.MaxNest {
		return false
	}
	t.size = size
	return true
}
