package cparse

import (
	"patois/api"
	"patois/core"
	"patois/cscan"
	"patois/text"
)

// What a word behind a key is.
const (
	asName    = 'n'
	asValue   = 'v'
	asItems   = 'i' // a value that is split at its blanks
	asProgram = 'p' // a value that is a program when it is asked
)

// form is a way to go on behind a key: what each word is, and what may stand
// behind these, again and again; and the node that comes of it.
type form struct {
	key          string
	kind, n      int
	words, again string
}

// forms is all of them. A name, where one is asked for, is the first word.
var forms = [...]form{
	{key: "set", kind: api.Set, words: "nv"},
	{key: "if", kind: api.If, words: "pp"},
	{key: "if", kind: api.If, words: "ppp"},
	{key: "while", kind: api.While, words: "pp"},
	{key: "and", kind: api.And, words: "pp"},
	{key: "or", kind: api.Or, words: "pp"},
	{key: "not", kind: api.Not, words: "p"},
	{key: "eval", kind: api.Eval, words: "v"},
	{key: "foreach", kind: api.For, words: "nip"},
	{key: "proc", kind: api.Fun, words: "np"},
	{key: "pipe", kind: api.Pipe, words: "pp", again: "p"},
	{key: "from", kind: api.Redir, n: 1, words: "vp"},
	{key: "into", kind: api.Redir, n: 2, words: "vp"},
	{key: "onto", kind: api.Redir, n: 3, words: "vp"},
	{key: "with", kind: api.Here, words: "vp"},
	{key: "local", kind: api.Local, words: "nvp"},
	{key: "match", kind: api.Case, words: "v", again: "vp"},
}

// formOf answers the form of so many words behind the key, if there is one.
func formOf(key string, words int) (form, bool) {
	for _, f := range forms {
		if f.key == key && f.fits(words) {
			return f, true
		}
	}
	return form{}, false
}

// fits answers whether so many words have this form.
func (f form) fits(words int) bool {
	more := words - len(f.words)
	if more <= 0 || f.again == "" {
		return more == 0
	}
	return more%len(f.again) == 0
}

// role answers what the i-th word is, from 0 on.
func (f form) role(i int) byte {
	if i < len(f.words) {
		return f.words[i]
	}
	return f.again[(i-len(f.words))%len(f.again)]
}

// name answers the name that the form asks for; none, if it asks for none.
func (s spot) name(f form, words ...cscan.Word) (string, error) {
	if f.role(0) != asName {
		return "", nil
	}
	name, _ := cscan.Text(words[0])
	if !text.Name(name) {
		return "", s.fault(words[0].At, api.ErrForm)
	}
	return name, nil
}

// made answers the command of this form, of its name and of its words' values.
func (f form) made(name string, values ...[]api.Node) []api.Node {
	var kids [][]api.Node
	for i, value := range values {
		switch f.role(i) {
		case asValue:
			kids = append(kids, value)
		case asItems:
			kids = append(kids, around(value, api.Split, api.Plain))
		case asProgram:
			kids = append(kids, around(value, api.Eval))
		}
	}
	if f.kind == api.If && len(kids) == 2 {
		// An If always has what is done otherwise, if only nothing.
		kids = append(kids, core.Seq())
	}
	return core.New(f.kind, f.n, name, kids...)
}
