package pattern

import (
	"slices"
	"strings"
	"testing"
)

// everyByte is all bytes, rising.
func everyByte() string {
	all := make([]byte, 256)
	for i := range all {
		all[i] = byte(i)
	}
	return string(all)
}

// texts is all texts of up to n bytes of the given ones, and some odd ones.
func texts(bytes string, n int) []string {
	all := []string{""}
	for from, length := 0, 0; length < n; length++ {
		to := len(all)
		for _, s := range all[from:to] {
			for i := range len(bytes) {
				all = append(all, s+bytes[i:i+1])
			}
		}
		from = to
	}
	return append(all, everyByte(), "é*ü", "\x00\\\x00", "\xff[\xff]\\", strings.Repeat(`\`, 99), strings.Repeat(`a* `, 99))
}

// mark is the model's byte of live text.
type mark struct {
	c    byte
	dead bool
	raw  string
}

func (m mark) alive(c byte) bool { return !m.dead && m.c == c }

// marks reads live text as the chapter's section 'Words' tells it.
func marks(s string) []mark {
	var l []mark
	for i := 0; i < len(s); i++ {
		switch {
		case s[i] == '\\' && i+1 < len(s):
			l = append(l, mark{s[i+1], true, s[i : i+2]})
			i++
		default:
			l = append(l, mark{s[i], s[i] == '\\', s[i : i+1]})
		}
	}
	return l
}

// bracket answers what is between the brackets at the head of l, and what is behind them.
func bracket(l []mark) (between, behind []mark, is bool) {
	if len(l) == 0 || !l[0].alive('[') {
		return nil, nil, false
	}
	for end := 2; end < len(l); end++ {
		if l[end].alive(']') {
			return l[1:end], l[end+1:], true
		}
	}
	return nil, nil, false
}

func modelIn(l []mark, c byte) bool {
	if len(l) > 1 && l[0].alive('^') {
		return !modelListed(l[1:], c)
	}
	return modelListed(l, c)
}

func modelListed(l []mark, c byte) bool {
	switch {
	case len(l) == 0:
		return false
	case len(l) > 2 && l[1].alive('-'):
		return l[0].c <= c && c <= l[2].c || modelListed(l[3:], c)
	default:
		return l[0].c == c || modelListed(l[1:], c)
	}
}

// modelMatch tries all that each `*` could be.
func modelMatch(l []mark, s string) bool {
	if len(l) == 0 {
		return s == ""
	}
	if l[0].alive('*') {
		return modelMatch(l[1:], s) || s != "" && modelMatch(l, s[1:])
	}
	if s == "" {
		return false
	}
	if between, behind, is := bracket(l); is {
		return modelIn(between, s[0]) && modelMatch(behind, s[1:])
	}
	return (l[0].alive('?') || l[0].c == s[0]) && modelMatch(l[1:], s[1:])
}

// Whoever goes through letters may stop where he likes.
func TestLettersStop(t *testing.T) {
	var seen []int
	for at := range letters(`a\bcd`) {
		if seen = append(seen, at); at == 1 {
			break
		}
	}
	if !slices.Equal(seen, []int{0, 1}) {
		t.Error(seen)
	}
}

// P2.1

func TestClosed(t *testing.T) {
	for s, want := range map[string]bool{
		"": true, "a": true, `\`: false, `\\`: true, `\\\`: false, `a\\\`: false, `a\\\\`: true, `\a`: true,
		`\a\`: false, `a\b`: true, `\\a\`: false, `\ `: true, `\a\\`: true, "\\\n": true, "a\\\x00": true, "/": true,
	} {
		if got := Closed(s); got != want {
			t.Errorf("Closed(%q): %v", s, got)
		}
	}
	for _, s := range texts(`\a[ `, 5) {
		l := marks(s)
		want := len(l) == 0 || l[len(l)-1].raw != `\`
		if got := Closed(s); got != want {
			t.Errorf("Closed(%q): %v", s, got)
		}
	}
}

func TestEscape(t *testing.T) {
	for s, want := range map[string]string{
		"": "", "a": "a", "a*b c": `a\*b\ c`, "*?[]\\ \t\n": "\\*\\?\\[\\]\\\\\\ \\\t\\\n", "^-a-^": "^-a-^", "\r\v\f\x00\u00a0": "\r\v\f\x00\u00a0",
		`\`: `\\`, `\\`: `\\\\`, `\*`: `\\\*`, "{}()$'\"#;&|<>~!.": "{}()$'\"#;&|<>~!.",
	} {
		if got := Escape(s); got != want {
			t.Errorf("Escape(%q): %q, not %q", s, got, want)
		}
	}
}

// Each byte by itself: only eight of them get a `\`.
func TestEscapeOfEachByte(t *testing.T) {
	for i := range 256 {
		s := string([]byte{byte(i)})
		want := s
		if slices.Contains([]int{'*', '?', '[', ']', '\\', ' ', 9, 10}, i) {
			want = `\` + s
		}
		if got := Escape(s); got != want {
			t.Errorf("Escape(%q): %q", s, got)
		}
	}
}

func TestPlain(t *testing.T) {
	for s, want := range map[string]string{
		"": "", `a\*\\`: `a*\`, `\`: `\`, `\\`: `\`, `\\\`: `\\`, `\\\\`: `\\`, `a\`: `a\`, `\a`: "a", "a b": "a b",
		"[*]?": "[*]?", "\\\n": "\n", `\é`: "é", "\\\x00": "\x00", `\a\b\c`: "abc", `\\a`: `\a`,
	} {
		if got := Plain(s); got != want {
			t.Errorf("Plain(%q): %q, not %q", s, got, want)
		}
	}
	for _, s := range texts(`\a* `, 5) {
		var want []byte
		for _, m := range marks(s) {
			want = append(want, m.c)
		}
		if got := Plain(s); got != string(want) {
			t.Errorf("Plain(%q): %q, not %q", s, got, want)
		}
	}
}

func TestLive(t *testing.T) {
	for s, want := range map[string]bool{
		"": false, "a": false, "*": true, "?": true, "a*": true, "*a": true, `\*`: false, `\?`: false, `\\*`: true, `\\\*`: false,
		"[]": false, "[a]": true, "[": false, "]": false, "[a": false, "a]": false, "[]]": true, "[[]": true, "[]a": false,
		"[]a]": true, "][": false, "]a[": false, "][a]": true, `\[a]`: false, `[a\]`: false, `[\]`: false, `[\]]`: true, `[\a]`: true,
		`[a\]b]`: true, `[\]a`: false, "[^]": true, "[^]]": true, "[ ]": true, "[][": false, "[a][": true, `\[[a]`: true,
		"a b": false, `\`: false, "*\\": true, "[\\": false, "[]\\": false, `[]\]`: false, "^-": false, "a[b]c": true, "[[]]": true, "[][]": true,
	} {
		if got := Live(s); got != want {
			t.Errorf("Live(%q): %v", s, got)
		}
	}
}

func TestLiveAsTheModel(t *testing.T) {
	for _, s := range append(texts(`\[]a`, 6), texts(`\*?[]`, 4)...) {
		want := false
		for l := marks(s); len(l) > 0; l = l[1:] {
			_, _, opens := bracket(l)
			want = want || opens || l[0].alive('*') || l[0].alive('?')
		}
		if got := Live(s); got != want {
			t.Errorf("Live(%q): %v", s, got)
		}
	}
}

// P2.2

func TestMatch(t *testing.T) {
	for _, x := range []struct {
		p, yes, no string
	}{
		{"a", "a", "b"}, {"a", "a", ""}, {"a", "a", "aa"}, {"", "", "a"}, {"ab", "ab", "ba"}, {"A", "A", "a"},
		{"a*[b-d]", "axxc", "axxe"}, {`\*`, "*", "x"}, {`\*`, "*", `\*`}, {`\?`, "?", "a"}, {`\a`, "a", `\a`}, {`\\`, `\`, `\\`}, {`a\`, `a\`, "a"},
		{"*a", "a", "ab"}, {"*a", "baa", "bab"}, {"a*", "a", "ba"}, {"a*b", "ab", "a"}, {"a*a", "aa", "a"},
		{"?", "a", ""}, {"?", "\n", "ab"}, {"??", "é", "a"}, {"?*", "a", ""}, {"*?", "abc", ""}, {"?", "\xff", "é"}, {"?", "\x00", ""},
		{"*.c", "x.c", "x.cc"}, {"*a*b*", "xxaxxbxx", "xxbxxaxx"}, {"*ab*ab", "abab", "aba"}, {"a*b*c", "abcbc", "abcb"},
		{"[abc]", "b", "d"}, {"[abc]", "a", "[abc]"}, {"[a]b", "ab", "a"}, {"[a][b]", "ab", "ba"}, {"[a]", "a", ""}, {"[a]", "a", "aa"},
		{"[]a]", "]", "b"}, {"[]a]", "a", "]a]"}, {"[]]", "]", "[]]"}, {"[]", "[]", "]"}, {"[", "[", ""}, {"[a", "[a", "a"}, {"[*", "[xy", "x"}, {"a]", "a]", "a"},
		{"[]-a]", "_", "b"}, {"[[]", "[", "]"}, {"[[a]]", "[]", "["}, {"[a[b]", "[", "]"}, {"[*]", "*", "a"}, {"[?]", "?", "a"}, {"[ ]", " ", "a"},
		{"[^]", "^", "a"}, {"[^]a]", "^a]", "xa]"}, {"[^]]", "^]", "a"}, {"[^ab]", "c", "b"}, {"[^ab]", "^", ""}, {"[^^]", "a", "^"}, {"[^-]", "^", "-"},
		{"[^a-c]", "d", "b"}, {"[^-a]", "b", "-"}, {"[a^]", "^", "b"}, {`[\^a]`, "^", "b"}, {`[\^-a]`, "_", "b"}, {`[^\]]`, "a", "]"}, {`[^\^]`, "a", "^"},
		{"[^a]", "\xff", "a"}, {"[^\xff]", "\x00", "\xff"}, {"[^\x00-\xfe]", "\xff", "a"}, {`[^\a]`, "b", "a"},
		{"[b-d]", "b", "a"}, {"[b-d]", "d", "e"}, {"[b-d]", "c", "-"}, {"[b-b]", "b", "-"},
		{"[a-]", "-", "b"}, {"[-a]", "-", "b"}, {"[-]", "-", "a"}, {"[--]", "-", "a"}, {"[---]", "-", "a"}, {"[a-c-e]", "-", "d"}, {"[a-c-e]", "e", "d"},
		{"[+--]", ",", "."}, {"[--/]", ".", "0"}, {`[a\-c]`, "-", "b"}, {`[a\-c]`, "c", "b"}, {`[\a-c]`, "b", "d"}, {`[a-\c]`, "b", "d"}, {`[\--\/]`, ".", `\`},
		{"[\x00-\xff]", "\xff", ""}, {"[\xfe-\xff]", "\xff", "\xfd"}, {"[\xff-\xff]", "\xff", "\x00"}, {"[?-@]", "@", "A"}, {"[\x7f-\x80]", "\x80", "\x81"},
		{`[\]]`, "]", `\`}, {`[a\]`, "[a]", "a"}, {`[a\]b]`, "]", `\`}, {`[\\]`, `\`, "a"}, {`\[a]`, "[a]", "a"}, {`[\-a]`, "-", "b"},
		{"[a]*", "ab\n", "ba"}, {"*[a]", "ba", "ab"}, {"*[^a]*", "aba", "aaa"}, {"é", "é", "e"}, {"[é]", "\xc3", "é"}, {"a b", "a b", "ab"},
	} {
		if !Match(x.p, x.yes) {
			t.Errorf("Match(%q, %q): false", x.p, x.yes)
		}
		if Match(x.p, x.no) {
			t.Errorf("Match(%q, %q): true", x.p, x.no)
		}
	}
}

func TestMatchOfNone(t *testing.T) {
	for _, p := range []string{"", "*", "**", "***"} {
		if !Match(p, "") {
			t.Errorf("Match(%q, none): false", p)
		}
	}
	for _, p := range []string{"?", "a", "*a", "a*", "[a]", "[^a]", `\`, `\*`, "[", "]", "[]", "*?*"} {
		if Match(p, "") {
			t.Errorf("Match(%q, none): true", p)
		}
	}
}

// A range whose first is the greater has none in it, and turned it has all.
func TestMatchOfRangesTurnedRound(t *testing.T) {
	for i := range 256 {
		s := string([]byte{byte(i)})
		if Match("[d-b]", s) || Match("[\xff-\x00]", s) || Match(`[a-\]]`, s) || !Match("[^d-b]", s) {
			t.Errorf("%q", s)
		}
		if got := Match("[d-bx]", s); got != (s == "x") {
			t.Errorf("%q: %v", s, got)
		}
		if got := Match("[b-d]", s); got != (i >= 'b' && i <= 'd') {
			t.Errorf("%q: %v", s, got)
		}
	}
}

func TestMatchAsTheModel(t *testing.T) {
	subjects := append(texts("ab]", 3), texts(`[]\*?^-`, 2)...)
	patterns := slices.Concat(texts(`ab*?`, 4), texts(`[]a\b`, 5), texts(`*[]a`, 4))
	for _, middle := range texts(`ac^-]\`, 4) {
		patterns = append(patterns, "["+middle+"]")
	}
	for _, p := range patterns {
		l := marks(p)
		for _, s := range subjects {
			if len(s) > 4 {
				continue
			}
			if got := Match(p, s); got != modelMatch(l, s) {
				t.Fatalf("Match(%q, %q): %v", p, s, got)
			}
		}
	}
}

// What is between brackets, byte for byte.
func TestBracketsAsTheModel(t *testing.T) {
	for _, middle := range texts(`ad^-]\`, 5) {
		p := "[" + middle + "]"
		l := marks(p)
		for i := range 256 {
			if s := string([]byte{byte(i)}); Match(p, s) != modelMatch(l, s) {
				t.Fatalf("Match(%q, %q): %v", p, s, Match(p, s))
			}
		}
	}
}

// Trying all that each `*` could be would not end in anyone's time here.
func TestMatchEnds(t *testing.T) {
	long := strings.Repeat("a", 5000)
	for _, x := range []struct {
		p, s string
		want bool
	}{
		{strings.Repeat("*a", 2000) + "b", long, false}, {strings.Repeat("a*", 2000) + "b", long, false}, {strings.Repeat("*a", 5000), long, true},
		{strings.Repeat("*a", 5001), long, false}, {strings.Repeat("*", 5000), long, true}, {strings.Repeat("[", 300000), strings.Repeat("[", 300000), true},
		{strings.Repeat("[]", 2), "[]", false}, {"[" + long + "]", "a", true},
	} {
		if got := Match(x.p, x.s); got != x.want {
			t.Errorf("Match of %d bytes: %v", len(x.p), got)
		}
	}
	if Live(strings.Repeat("[", 300000)) {
		t.Error("Live of [ alone")
	}
}

// P2.3

func TestSplit(t *testing.T) {
	for s, want := range map[string][]string{
		"": nil, " ": nil, " \t\n ": nil, "a": {"a"}, " a": {"a"}, "a ": {"a"}, "a b": {"a", "b"}, `a b\ c  d`: {"a", `b\ c`, "d"}, "\ta\nb c\t": {"a", "b", "c"},
		`\ `: {`\ `}, `\  `: {`\ `}, `\\ a`: {`\\`, "a"}, `\\\ a`: {`\\\ a`}, `a\`: {`a\`}, ` \`: {`\`}, `a \`: {"a", `\`}, "\\\n\\\t": {"\\\n\\\t"},
		"[a b]": {"[a", "b]"}, "* ?": {"*", "?"}, "a\rb\vc\fd\x00e": {"a\rb\vc\fd\x00e"}, "a\u00a0b": {"a\u00a0b"}, `\a \b`: {`\a`, `\b`}, "a a a": {"a", "a", "a"},
	} {
		if got := Split(s); !slices.Equal(got, want) {
			t.Errorf("Split(%q): %q, not %q", s, got, want)
		}
	}
}

func TestSplitAsTheModel(t *testing.T) {
	for _, s := range texts("\\a \n", 6) {
		var want []string
		part := ""
		for _, m := range append(marks(s), mark{c: ' '}) {
			switch {
			case !m.alive(' ') && !m.alive('\t') && !m.alive('\n'):
				part += m.raw
			case part != "":
				want = append(want, part)
				part = ""
			}
		}
		if got := Split(s); !slices.Equal(got, want) {
			t.Errorf("Split(%q): %q, not %q", s, got, want)
		}
	}
}

func TestAny(t *testing.T) {
	for _, x := range []struct {
		s    string
		l    []string
		want bool
	}{
		{"b", []string{"a", "?"}, true}, {"b", []string{"?", "a"}, true}, {"b", nil, false}, {"", nil, false}, {"b", []string{}, false}, {"b", []string{"a"}, false},
		{"b", []string{"a", "c", "bb", ""}, false}, {"", []string{"a", ""}, true}, {"", []string{"?", "*"}, true}, {".a", []string{"*"}, true},
		{"*", []string{`\*`}, true}, {"b", []string{`\*`, "[^b]", "[a-c]"}, true}, {"?", []string{"b"}, false},
	} {
		if got := Any(x.s, x.l...); got != x.want {
			t.Errorf("Any(%q, %q): %v", x.s, x.l, got)
		}
	}
}

func TestFiles(t *testing.T) {
	names := []string{"b.c", ".x.c", "a.c", "b.c", "z", "", "a.c", "A.c", "é", ".", "..", "x.", "*", "b"}
	for p, want := range map[string][]string{
		"*.c": {"A.c", "a.c", "b.c"}, ".*": {".", "..", ".x.c"}, "?": {"*", "b", "z"}, `\.*`: nil, "[.]*": nil, "?x.c": nil, "*": {"", "*", "A.c", "a.c", "b", "b.c", "x.", "z", "é"},
		"z": {"z"}, "y": nil, "": {""}, ".": {"."}, "..": {".."}, `\.`: nil, "?.": {"x."}, `\*`: {"*"}, ".x.c": {".x.c"}, "*.": {"x."}, ".?": {".."}, "??": {"x.", "é"}, "[a-b].c": {"a.c", "b.c"},
		"[^a]*": {"*", "A.c", "b", "b.c", "x.", "z", "é"}, "b*": {"b", "b.c"},
	} {
		if got := Files(p, names...); !slices.Equal(got, want) {
			t.Errorf("Files(%q): %q, not %q", p, got, want)
		}
	}
	if got := Files("*"); len(got) != 0 {
		t.Errorf("Files of no names: %q", got)
	}
}

func TestFilesInWhateverOrder(t *testing.T) {
	want := []string{"", "a", "aa", "ab", "b", "ba", "\xff"}
	names := slices.Concat(want, want)
	for range len(names) {
		names = append(names[1:len(names):len(names)], names[0])
		if got := Files("*", names...); !slices.Equal(got, want) {
			t.Errorf("Files of %q: %q", names, got)
		}
	}
}

// P2.4

func TestListsAreNew(t *testing.T) {
	names := []string{"b", "a", "b", "hidden"}
	given := names[:3]
	first, second := Files("*", given...), Files("*", given...)
	spoil(first)
	if !slices.Equal(second, []string{"a", "b"}) || !slices.Equal(names, []string{"b", "a", "b", "hidden"}) {
		t.Error(second, names)
	}
	spoil(second)
	if !slices.Equal(names, []string{"b", "a", "b", "hidden"}) || !slices.Equal(Files("*", given...), []string{"a", "b"}) {
		t.Error(names)
	}
	one, other := Split("a b c"), Split("a b c")
	spoil(one)
	if !slices.Equal(other, []string{"a", "b", "c"}) {
		t.Error(other)
	}
}

// spoil writes over a list and all of its spare room.
func spoil(l []string) {
	for i := range l[:cap(l)] {
		l[:cap(l)][i] = "spoiled"
	}
}

// Asking changes no list that was handed in.
func TestArgumentsStay(t *testing.T) {
	l := []string{"b", "*", "a", "b"}
	kept := slices.Clone(l)
	Any("x", l...)
	Files("*", l...)
	if !slices.Equal(l, kept) {
		t.Error(l)
	}
}

// P2.5

func TestEscapeIsTheTextAlone(t *testing.T) {
	for _, s := range texts("a*?[]\\ \n^-", 4) {
		e := Escape(s)
		if Plain(e) != s || !Closed(e) || Live(e) || !Match(e, s) {
			t.Fatalf("Escape(%q): %q", s, e)
		}
		var want []string
		if s != "" {
			want = []string{e}
		}
		if got := Split(e); !slices.Equal(got, want) {
			t.Fatalf("Split(%q): %q", e, got)
		}
	}
}

func TestEscapeMatchesNothingElse(t *testing.T) {
	all := texts(`a*?[]\^`, 3)
	for _, s := range all {
		e := Escape(s)
		for _, other := range all {
			if Match(e, other) != (s == other) {
				t.Fatalf("Match(%q, %q)", e, other)
			}
		}
	}
}

// Behind closed text, bytes live and die as they do apart.
func TestClosedTextGoesAhead(t *testing.T) {
	all := texts(`\a* `, 4)
	for _, ahead := range all {
		if !Closed(ahead) {
			continue
		}
		for _, behind := range all {
			both := ahead + behind
			if Plain(both) != Plain(ahead)+Plain(behind) || Closed(both) != Closed(behind) || Live(both) != (Live(ahead) || Live(behind)) {
				t.Fatalf("%q, %q", ahead, behind)
			}
			// A blank between keeps the parts of the two apart.
			if got := Split(ahead + " " + behind); !slices.Equal(got, slices.Concat(Split(ahead), Split(behind))) {
				t.Fatalf("Split(%q): %q", ahead+" "+behind, got)
			}
		}
	}
}
