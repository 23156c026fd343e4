package run

import (
	"slices"

	"patois/api"
	"patois/builtin"
	"patois/core"
)

// call runs what the words name: a function ahead of a builtin ahead of a
// command of the world.
func (r *running) call(words ...[]api.Node) (int, error) {
	items, err := r.cat(api.MaxList, words...)
	if err != nil || len(items) == 0 {
		return api.Good, err
	}
	name, args := items[0], items[1:]
	if body, is := r.Fun(name); is {
		return r.framed(body, args...)
	}
	if o, is := builtin.Do(name, r.heard, args...); is {
		return r.follow(o)
	}
	return r.exec(name, args...)
}

// follow does what a builtin's outcome says.
func (r *running) follow(o builtin.Outcome) (int, error) {
	if err := r.say(o.Out); err != nil {
		return 0, err
	}
	r.heard = o.Rest
	if o.Name != "" {
		if len(o.Value) > api.MaxString {
			return 0, api.ErrBig
		}
		r.Set(o.Name, o.Value)
	}
	if o.End {
		r.ended = o.Status
		return 0, errEnd
	}
	return o.Status, nil
}

// exec runs a command of the world.
func (r *running) exec(name string, args ...string) (int, error) {
	said, status, _ := r.Exec(name, r.heard, args...)
	if r.Reads(name, args...) {
		r.heard = ""
	}
	if err := r.say(said); err != nil {
		return 0, err
	}
	return status, nil
}

// frame runs the last of its parts with the others as the arguments: one less
// than a list may have, as a call has its name beside them.
func (r *running) frame(parts ...[]api.Node) (int, error) {
	last := len(parts) - 1
	args, err := r.cat(api.MaxList-1, parts[:last]...)
	if err != nil {
		return 0, err
	}
	return r.framed(parts[last], args...)
}

// framed runs a command one deeper, with these arguments.
func (r *running) framed(command []api.Node, args ...string) (int, error) {
	return r.deeper(func() (int, error) {
		before := r.SetArgs(args...)
		status, err := r.command(command)
		if err != nil {
			return 0, err
		}
		r.SetArgs(before...)
		return status, nil
	})
}

// local runs a command while a variable has a word's list.
func (r *running) local(name string, word, command []api.Node) (int, error) {
	made, err := r.word(word)
	if err != nil {
		return 0, err
	}
	before, had := r.Swap(name, true, made...)
	status, err := r.command(command)
	if err != nil {
		return 0, err
	}
	r.Swap(name, had, before...)
	return status, nil
}

// eval runs the program that a word's text is.
func (r *running) eval(word []api.Node) (int, error) {
	source, err := r.flat(word)
	if err != nil {
		return 0, err
	}
	return r.deeper(func() (int, error) {
		program, is := r.parsed(source)
		if !is {
			return api.BadText, nil
		}
		return r.command(program)
	})
}

// parsed answers the program that Parse makes of a text, if it may be. It is a
// copy, as a Parse may answer the same memory again while the program still
// runs. A Parse that panics has made none: no call of this package does.
func (r *running) parsed(source string) (program []api.Node, is bool) {
	if r.parse == nil {
		return nil, false
	}
	defer func() {
		if recover() != nil {
			program, is = nil, false
		}
	}()
	made, err := r.parse(source)
	if err != nil || core.Check(made) != nil {
		return nil, false
	}
	return slices.Clone(made), true
}
