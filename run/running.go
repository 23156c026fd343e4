package run

import (
	"errors"

	"patois/api"
	"patois/store"
	"patois/world"
)

// errEnd ends a run as an error does, where a builtin says so. It is never told.
var errEnd = errors.New("the run is ended")

// running is a run under way. The store and the kernel are embedded in it, and
// their calls are its own.
type running struct {
	*store.Store
	*world.Kernel
	parse            Parser
	steps, mostSteps int
	depth, mostDepth int
	heard            string
	says             mouth
	// ended is the status that comes with errEnd.
	ended int
}

// mouth is where it is said: behind what was caught, if there is a place for
// that, or to a file (none: the outside).
type mouth struct {
	caught *string
	file   string
}

// begin answers a run of which nothing was done yet, or the error of the world
// or, behind that, of the options.
func begin(w api.World, o Options) (*running, error) {
	kernel, err := world.New(w)
	if err != nil {
		return nil, err
	}
	if err := checkOptions(o); err != nil {
		return nil, err
	}
	r := &running{
		Store: store.New(o.Vars...), Kernel: kernel,
		parse: o.Parse, mostSteps: o.Steps, mostDepth: o.Depth, heard: o.In,
	}
	r.SetArgs(o.Args...)
	return r, nil
}

// result answers what has come of the run, whose program answered so.
func (r *running) result(status int, err error) api.Result {
	if err == errEnd {
		status, err = r.ended, nil
	}
	return api.Result{Status: status, Err: err, Trace: r.Trace(), Vars: r.Vars(), Files: r.Files(), Steps: r.steps}
}

// step takes one more step, if there is one left.
func (r *running) step() error {
	if r.steps == r.mostSteps {
		return api.ErrFuel
	}
	r.steps++
	return nil
}

// deeper does something one deeper, if it may go there. As everywhere, nothing
// is put back behind an error: the run is at its end.
func (r *running) deeper(do func() (int, error)) (int, error) {
	if r.depth == r.mostDepth {
		return 0, api.ErrDeep
	}
	r.depth++
	status, err := do()
	if err != nil {
		return 0, err
	}
	r.depth--
	return status, nil
}

// say says data where it is said now.
func (r *running) say(data string) error {
	caught := r.says.caught
	if caught == nil {
		return r.Write(r.says.file, data)
	}
	if len(data) > api.MaxString-len(*caught) {
		return api.ErrBig
	}
	*caught += data
	return nil
}

// saying runs a command that says to another place.
func (r *running) saying(to mouth, command []api.Node) (int, error) {
	before := r.says
	r.says = to
	status, err := r.command(command)
	if err != nil {
		return 0, err
	}
	r.says = before
	return status, nil
}

// catching runs a command, and answers what it says.
func (r *running) catching(command []api.Node) (string, error) {
	var caught string
	if _, err := r.saying(mouth{caught: &caught}, command); err != nil {
		return "", err
	}
	return caught, nil
}

// hearing runs a command that hears another text. What it leaves of that is
// gone.
func (r *running) hearing(heard string, command []api.Node) (int, error) {
	before := r.heard
	r.heard = heard
	status, err := r.command(command)
	if err != nil {
		return 0, err
	}
	r.heard = before
	return status, nil
}

// kids answers the children of the first node, each with all below it. They are
// pieces of l, as a run goes through the same nodes again and again.
func kids(l []api.Node) [][]api.Node {
	all := make([][]api.Node, 0, l[0].K)
	for at := 1; at < len(l); at += l[at].Size {
		all = append(all, l[at:at+l[at].Size])
	}
	return all
}
