package cscan

import "strings"

// Brace answers s between braces, if that is a word of just s.
func Brace(s string) (string, bool) {
	braced := "{" + s + "}"
	if !reads(braced, s) {
		return "", false
	}
	return braced, true
}

// Quote answers a word that is read as s: s itself where it can be, or s between
// quotes.
func Quote(s string) string {
	// A space is put behind, for a `\` at the end to take it: what will stand there
	// is not known here. Tried where a command begins, a `#` ahead is a comment.
	if reads(s+" ", s) {
		return s
	}
	return `"` + strings.NewReplacer(`"`, `\"`, `\`, `\\`, "$", `\$`, "[", `\[`).Replace(s) + `"`
}

// reads answers whether source is one word, of just the text s. Whether that is
// braced or quoted needs no asking: only a bare word is as long as its text.
func reads(source, s string) bool {
	l, err := Scan(source)
	if err != nil || len(l) != 1 || len(l[0].Words) != 1 {
		return false
	}
	said, is := Text(l[0].Words[0])
	return is && said == s
}
