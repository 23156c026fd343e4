package aparse

import (
	"strings"

	"patois/api"
	"patois/core"
)

// join answers the parts joined. Neighbouring Lits, all of which have this N,
// become one; those that are empty are left out, unless there is nothing else.
func join(n int, parts ...[]api.Node) []api.Node {
	var joined [][]api.Node
	var text strings.Builder
	endText := func() {
		if text.Len() > 0 {
			joined = append(joined, core.New(api.Lit, n, text.String()))
			text.Reset()
		}
	}
	for _, part := range parts {
		if part[0].Kind == api.Lit {
			text.WriteString(part[0].S)
			continue
		}
		endText()
		joined = append(joined, part)
	}
	endText()
	switch len(joined) {
	case 0:
		return core.New(api.Lit, n, "")
	case 1:
		return joined[0]
	}
	return core.New(api.Join, 0, "", joined...)
}

// liveText answers the live texts of the pieces that are text, together.
func liveText(l ...piece) string {
	var text strings.Builder
	for _, p := range l {
		if p.isText() {
			text.WriteString(p.text())
		}
	}
	return text.String()
}

// hasPatternByte answers whether a byte is alive that could be a pattern's. Also
// a `[` with no `]` behind it: that may come with what is put between the texts.
func hasPatternByte(s string) bool {
	for i := 0; i < len(s); i++ {
		switch s[i] {
		case '\\':
			i++
		case '*', '?', '[':
			return true
		}
	}
	return false
}
