package run

import (
	"patois/api"
	"patois/pattern"
)

// command runs a command, and answers its status.
func (r *running) command(l []api.Node) (int, error) {
	if beginsWithStep(l[0].Kind) {
		if err := r.step(); err != nil {
			return 0, err
		}
	}
	switch name, parts := l[0].S, kids(l); l[0].Kind {
	case api.Call:
		return r.call(parts...)
	case api.Set:
		return r.set(name, parts[0])
	case api.Seq:
		return r.seq(parts...)
	case api.If, api.And, api.Or, api.Not:
		return r.choose(l[0].Kind, parts...)
	case api.While:
		return r.while(parts[0], parts[1])
	case api.For:
		return r.each(name, parts[0], parts[1])
	case api.Case:
		return r.match(parts[0], parts[1:]...)
	case api.Fun:
		r.SetFun(name, parts[0])
	case api.Pipe:
		return r.pipe(parts...)
	case api.Redir:
		return r.redir(l[0].N, parts[0], parts[1])
	case api.Here:
		return r.here(parts[0], parts[1])
	case api.Local:
		return r.local(name, parts[0], parts[1])
	case api.Eval:
		return r.eval(parts[0])
	case api.Frame:
		return r.frame(parts...)
	}
	return api.Good, nil
}

// beginsWithStep answers whether a command takes a step ahead of all else.
// While and For take theirs round by round.
func beginsWithStep(kind int) bool {
	switch kind {
	case api.Nop, api.Seq, api.If, api.And, api.Or, api.Not, api.While, api.For:
		return false
	}
	return true
}

// set gives a variable a word's list.
func (r *running) set(name string, word []api.Node) (int, error) {
	made, err := r.word(word)
	if err != nil {
		return 0, err
	}
	r.Set(name, made...)
	return api.Good, nil
}

// seq runs the commands one after the other.
func (r *running) seq(commands ...[]api.Node) (int, error) {
	last := api.Good
	for _, command := range commands {
		status, err := r.command(command)
		if err != nil {
			return 0, err
		}
		last = status
	}
	return last, nil
}

// choose runs the first command, and then the one, if any, that goes with its
// status.
func (r *running) choose(kind int, commands ...[]api.Node) (int, error) {
	status, err := r.command(commands[0])
	if err != nil {
		return 0, err
	}
	well := status == api.Good
	switch {
	case kind == api.Not && well:
		return api.Failed, nil
	case kind == api.Not:
		return api.Good, nil
	case kind == api.If && !well:
		return r.command(commands[2])
	case kind == api.Or && !well, kind != api.Or && well:
		return r.command(commands[1])
	}
	return status, nil
}

// while runs the second command as long as the first goes well.
func (r *running) while(first, second []api.Node) (int, error) {
	last := api.Good
	for {
		if err := r.step(); err != nil {
			return 0, err
		}
		status, err := r.command(first)
		if err != nil {
			return 0, err
		}
		if status != api.Good {
			return last, nil
		}
		if last, err = r.command(second); err != nil {
			return 0, err
		}
	}
}

// each runs a command for each item of a word.
func (r *running) each(name string, word, command []api.Node) (int, error) {
	items, err := r.word(word)
	if err != nil {
		return 0, err
	}
	last := api.Good
	for _, item := range items {
		if err := r.step(); err != nil {
			return 0, err
		}
		r.Set(name, item)
		if last, err = r.command(command); err != nil {
			return 0, err
		}
	}
	return last, nil
}

// match runs the first command whose patterns match a word. Patterns behind
// those are not looked at: they may have a command in them.
func (r *running) match(word []api.Node, pairs ...[]api.Node) (int, error) {
	held, err := r.flat(word)
	if err != nil {
		return 0, err
	}
	for ; len(pairs) > 0; pairs = pairs[2:] {
		patterns, err := r.word(pairs[0])
		if err != nil {
			return 0, err
		}
		if pattern.Any(held, patterns...) {
			return r.command(pairs[1])
		}
	}
	return api.Good, nil
}
