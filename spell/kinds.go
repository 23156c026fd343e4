package spell

import "patois/api"

// kindNames is the name of each kind, at its number. None begins another, so
// that a reader knows one by its bytes alone.
var kindNames = [...]string{
	api.Lit: "lit", api.Var: "var", api.Cat: "cat", api.Join: "join",
	api.Split: "split", api.Glob: "glob", api.Plain: "plain", api.Esc: "esc",
	api.Flat: "flat", api.Count: "count", api.Pick: "pick", api.Sub: "sub",
	api.Nop: "nop", api.Call: "call", api.Set: "set", api.Seq: "seq",
	api.If: "if", api.And: "and", api.Or: "or", api.Not: "not",
	api.While: "while", api.For: "for", api.Case: "case", api.Fun: "fun",
	api.Pipe: "pipe", api.Redir: "redir", api.Here: "here",
	api.Local: "local", api.Eval: "eval", api.Frame: "frame",
}

// hasString answers whether the text of a node of this kind has its S.
func hasString(kind int) bool {
	switch kind {
	case api.Lit, api.Var, api.Set, api.For, api.Fun, api.Local:
		return true
	}
	return false
}
