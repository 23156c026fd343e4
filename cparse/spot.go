package cparse

import (
	"errors"

	"patois/api"
	"patois/core"
	"patois/cscan"
)

// spot is where a text stands in the whole source: at which place, and in how
// many brackets.
type spot struct{ base, deep int }

// fault answers the error around its place, of a place in the text.
func (s spot) fault(at int, err error) error { return fault(s.base+at, err) }

// moved answers the error of the text's scan around its place in the source.
func (s spot) moved(err error) error {
	var at *api.At
	if errors.As(err, &at) {
		return s.fault(at.Pos, at.Err)
	}
	return err
}

// program answers the program that the text is.
func (s spot) program(source string) ([]api.Node, error) {
	l, err := cscan.Scan(source)
	if err != nil {
		return nil, s.moved(err)
	}
	var all [][]api.Node
	for _, c := range l {
		made, err := s.command(c)
		if err != nil {
			return nil, err
		}
		all = append(all, made)
	}
	return core.Seq(all...), nil
}

// command answers what a command of one word at least becomes. What is wrong
// with its words goes ahead of what is wrong with its form, so that they all
// become values first, a name too.
func (s spot) command(c cscan.Command) ([]api.Node, error) {
	values, err := s.values(c.Words...)
	if err != nil {
		return nil, err
	}
	key, _ := cscan.Text(c.Words[0])
	if c.Words[0].Braced || !Key(key) {
		return core.New(api.Call, 0, "", values...), nil
	}
	f, is := formOf(key, len(c.Words)-1)
	if !is {
		return nil, s.fault(c.At, api.ErrForm)
	}
	name, err := s.name(f, c.Words[1:]...)
	if err != nil {
		return nil, err
	}
	return f.made(name, values[1:]...), nil
}

// values answers the value of each word.
func (s spot) values(words ...cscan.Word) ([][]api.Node, error) {
	var all [][]api.Node
	for _, w := range words {
		made, err := s.value(w)
		if err != nil {
			return nil, err
		}
		all = append(all, made)
	}
	return all, nil
}
