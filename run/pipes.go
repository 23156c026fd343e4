package run

import (
	"patois/api"
)

// toHear is the mode of a Redir whose file is heard. A Here is marked as one.
const toHear = 1

// pipe runs the commands, each hearing what the one ahead said.
func (r *running) pipe(commands ...[]api.Node) (int, error) {
	r.Mark(api.Tube, len(commands))
	status, err := r.through(commands...)
	if err != nil {
		return 0, err
	}
	r.Mark(api.Close, len(commands))
	return status, nil
}

// through leaves to be heard what the first command, which hears what the pipe
// does, leaves of that.
func (r *running) through(commands ...[]api.Node) (int, error) {
	last := len(commands) - 1
	said, err := r.catching(commands[0])
	left := r.heard
	for i := 1; i < last && err == nil; i++ {
		r.heard = said
		said, err = r.catching(commands[i])
	}
	if err != nil {
		return 0, err
	}
	r.heard = left
	return r.hearing(said, commands[last])
}

// redir runs a command that hears a file, or says to one.
func (r *running) redir(mode int, word, command []api.Node) (int, error) {
	file, err := r.flat(word)
	if err != nil {
		return 0, err
	}
	if file == "" {
		return api.Failed, nil
	}
	r.Mark(api.Dup, mode)
	status, err := r.opened(file, mode, command)
	if err != nil {
		return 0, err
	}
	r.Mark(api.Close, mode)
	return status, nil
}

// opened opens a file and runs a command with it. To be heard, it has to be
// there.
func (r *running) opened(file string, mode int, command []api.Node) (int, error) {
	data, there := r.Open(file, mode)
	switch {
	case !there:
		return api.Failed, nil
	case mode == toHear:
		return r.hearing(data, command)
	}
	return r.saying(mouth{file: file}, command)
}

// here runs a command that hears a word's text.
func (r *running) here(word, command []api.Node) (int, error) {
	heard, err := r.flat(word)
	if err != nil {
		return 0, err
	}
	r.Mark(api.Dup, toHear)
	status, err := r.hearing(heard, command)
	if err != nil {
		return 0, err
	}
	r.Mark(api.Close, toHear)
	return status, nil
}
