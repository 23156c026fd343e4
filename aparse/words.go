package aparse

import (
	"slices"

	"patois/alex"
	"patois/api"
	"patois/core"
	"patois/pattern"
)

const (
	asIs  = 0 // the N of a Lit whose text is as it is
	alive = 1 // the N of a Lit whose text is live

	arguments = "*" // the variable that all arguments are
)

// piece is a part of a word, and of a `$(` the program.
type piece struct {
	alex.Part
	program []api.Node
}

// isText answers whether the piece is text, and nothing is put in its place.
func (p piece) isText() bool { return p.Kind == alex.PText || p.Kind == alex.PDead }

// isFree answers whether what is put in the piece's place is looked at again.
func (p piece) isFree() bool { return !p.isText() && !p.Quoted }

// text answers the live text of a piece that is text.
func (p piece) text() string {
	if p.Kind == alex.PDead {
		return pattern.Escape(p.S)
	}
	return p.S
}

// reading is a way to make a tree of a word's pieces.
type reading func(l ...piece) []api.Node

// value reads a word as one item.
func value(l ...piece) []api.Node { return join(asIs, trees(valueOf, l...)...) }

// live reads a word as a pattern.
func live(l ...piece) []api.Node { return join(alive, trees(liveOf, l...)...) }

// field reads a word as items: what is free in it is split, and patterns become
// the files that they match; where there is neither, it is its value.
func field(l ...piece) []api.Node {
	texts := liveText(l...)
	made := join(alive, trees(fieldOf, l...)...)
	onlyText := made[0].Kind == api.Lit
	switch {
	case onlyText && pattern.Live(texts):
		return core.New(api.Glob, 0, "", made)
	case onlyText, !slices.ContainsFunc(l, piece.isFree) && !hasPatternByte(texts):
		return value(l...)
	}
	return core.New(api.Glob, 0, "", core.New(api.Split, 0, "", made))
}

// trees answers the tree of each piece.
func trees(of func(p piece) []api.Node, l ...piece) [][]api.Node {
	var all [][]api.Node
	for _, p := range l {
		all = append(all, of(p))
	}
	return all
}

// listOf answers the list that is put in the place of a piece that is no text.
func listOf(p piece) []api.Node {
	switch p.Kind {
	case alex.PVar:
		return core.New(api.Var, 0, p.S)
	case alex.PNum:
		return core.New(api.Pick, p.N, "", core.New(api.Var, 0, arguments))
	case alex.PMany:
		return core.New(api.Count, 0, "", core.New(api.Var, 0, arguments))
	}
	return core.New(api.Sub, 0, "", p.program)
}

// valueOf answers the one item that a piece is. Of a count, and of what a
// command says, there is never but one.
func valueOf(p piece) []api.Node {
	switch p.Kind {
	case alex.PText, alex.PDead:
		return core.Lit(p.S)
	case alex.PVar, alex.PNum:
		return core.New(api.Flat, 0, "", listOf(p))
	}
	return listOf(p)
}

// liveOf answers a piece of a pattern.
func liveOf(p piece) []api.Node {
	if p.isText() || p.Quoted {
		return fieldOf(p)
	}
	return valueOf(p)
}

// fieldOf answers a piece of items that are yet to be split and matched.
func fieldOf(p piece) []api.Node {
	switch {
	case p.isText():
		return core.New(api.Lit, alive, p.text())
	case p.Quoted:
		return core.New(api.Esc, 0, "", valueOf(p))
	}
	return listOf(p)
}
