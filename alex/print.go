package alex

import (
	"strings"

	"patois/text"
)

// Print answers a source with these tokens.
func Print(l []Token) string {
	var b strings.Builder
	for i, t := range l {
		if i > 0 && t.Kind != TEnd {
			b.WriteByte(' ')
		}
		b.WriteString(printed(t))
	}
	return b.String()
}

// printed is a token as it is written.
func printed(t Token) string {
	if t.Kind == TWord {
		return printedWord(t.Parts)
	}
	if t.Kind < 0 || t.Kind >= len(signs) {
		return ""
	}
	return signs[t.Kind]
}

func printedWord(parts []Part) string {
	var b strings.Builder
	for _, p := range parts {
		b.WriteString(printedPart(p))
	}
	return b.String()
}

func printedPart(p Part) string {
	switch p.Kind {
	case PText:
		return p.S
	case PDead:
		return "'" + strings.ReplaceAll(p.S, "'", `'\''`) + "'"
	}
	s := printedDollar(p)
	if p.Quoted && s != "" {
		return `"` + s + `"`
	}
	return s
}

func printedDollar(p Part) string {
	switch p.Kind {
	case PVar:
		if p.S == everything {
			return "$" + everything
		}
		return "${" + p.S + "}"
	case PSub:
		return "$(" + p.S + ")"
	case PNum:
		return "$" + text.Number(p.N)
	case PMany:
		return "$#"
	}
	return ""
}
