package blex

import (
	"strings"

	"patois/text"
)

// Print answers a source with these tokens. Where no Glue is, a space is also
// ahead of the end, of which nothing else is written: without it that would have
// Glue when it is read again.
func Print(l []Token) string {
	var b strings.Builder
	for i, t := range l {
		if i > 0 && !t.Glue {
			b.WriteByte(' ')
		}
		b.WriteString(printed(t))
	}
	return b.String()
}

// printed is a token as it is written; of no such kind nothing.
func printed(t Token) string {
	switch t.Kind {
	case TWord:
		return t.S
	case TDead:
		return quote + strings.ReplaceAll(t.S, quote, quoteTwice) + quote
	case TVar:
		return varSign + t.S
	case TCount:
		return countSign + t.S
	case TFlat:
		return flatSign + t.S
	case TNum:
		return varSign + text.Number(t.N)
	}
	if t.Kind < 0 || t.Kind >= len(signs) {
		return ""
	}
	return signs[t.Kind]
}
