package alex

import (
	"errors"
	"math/rand"
	"reflect"
	"strings"
	"testing"

	"patois/api"
	"patois/text"
)

// The chapter once more, word by word: a part a byte, and then those that are
// bytes made one. The tests below hold Lex against it.

// piece is a part, and the `"` that it is within, from 1 on; whether it is bytes.
type piece struct {
	Part
	quote int
	bytes bool
}

type slow struct {
	s      string
	i      int
	pieces []piece
	quote  int
	err    error
}

func (w *slow) fail(at int, err error) {
	if w.err == nil {
		w.err = &api.At{Pos: at, Err: err}
	}
	w.i = len(w.s)
}

func (w *slow) add(p Part, bytes bool) { w.pieces = append(w.pieces, piece{p, w.quote, bytes}) }

// slowLex is the tokens of s.
func slowLex(s string) ([]Token, error) {
	var l []Token
	for i := 0; ; {
		rest := strings.TrimLeft(s[i:], " \t")
		if strings.HasPrefix(rest, "#") {
			if n := strings.Index(rest, "\n"); n < 0 {
				rest = ""
			} else {
				rest = rest[n:]
			}
		}
		i = len(s) - len(rest)
		kind, n := TWord, 0
		for _, x := range []Token{{Kind: THere, At: 3}, {Kind: TMore, At: 2}, {Kind: TOr, At: 2}, {Kind: TAnd, At: 2}, {Kind: TCase, At: 2}, {Kind: TOut, At: 1}, {Kind: TIn, At: 1}, {Kind: TClose, At: 1}, {Kind: TOpen, At: 1}, {Kind: TPipe, At: 1}, {Kind: TSemi, At: 1}, {Kind: TLine, At: 1}} {
			sign := strings.ReplaceAll(tokenNames[x.Kind], "line", "\n")
			if n == 0 && strings.HasPrefix(rest, sign) {
				kind, n = x.Kind, x.At
			}
		}
		switch {
		case rest == "":
			return append(l, Token{Kind: TEnd, At: i}), nil
		case n > 0:
			l = append(l, Token{Kind: kind, At: i})
			i += n
		case rest[0] == '&':
			return nil, &api.At{Pos: i, Err: api.ErrToken}
		default:
			w := &slow{s: s, i: i}
			w.word()
			if w.err != nil {
				return nil, w.err
			}
			l = append(l, Token{Kind: TWord, At: i, Parts: w.merged()})
			i = w.i
		}
	}
}

func (w *slow) word() {
	quotes := 0
	for w.i < len(w.s) && !strings.Contains(" \t\n;&|()<>", w.s[w.i:w.i+1]) {
		c := w.s[w.i]
		switch {
		case c == '"':
			quotes++
			w.quote = quotes
			w.between(w.i)
			w.quote = 0
		case c == '\'':
			n := strings.IndexByte(w.s[w.i+1:], '\'')
			if n < 0 {
				w.fail(w.i, api.ErrQuote)
				return
			}
			w.add(Part{Kind: PDead, At: w.i, S: w.s[w.i+1 : w.i+1+n]}, false)
			w.i += n + 2
		case c == '\\':
			two := w.s[w.i:min(w.i+2, len(w.s))]
			w.add(Part{Kind: PDead, At: w.i, S: two[len(two)-1:]}, false)
			w.i += len(two)
		case c == '$' && w.dollar():
		default:
			w.add(Part{Kind: PText, At: w.i, S: w.s[w.i : w.i+1]}, true)
			w.i++
		}
	}
}

// between is what is between two `"`, the first of which is at start.
func (w *slow) between(start int) {
	w.add(Part{Kind: PDead, At: start}, true)
	w.i++
	for w.err == nil {
		switch {
		case w.i >= len(w.s):
			w.fail(start, api.ErrQuote)
		case w.s[w.i] == '"':
			w.i++
			return
		case w.s[w.i] == '$' && w.dollar():
		case w.s[w.i] == '\\' && w.i+1 < len(w.s):
			two := w.s[w.i : w.i+2]
			w.add(Part{Kind: PDead, At: w.i, S: strings.NewReplacer(`\$`, "$", `\"`, `"`, `\\`, `\`).Replace(two)}, true)
			w.i += 2
		default:
			w.add(Part{Kind: PDead, At: w.i, S: w.s[w.i : w.i+1]}, true)
			w.i++
		}
	}
}

// dollar is a dollar's part, if one begins here.
func (w *slow) dollar() bool {
	at, rest := w.i, w.s[w.i+1:]
	p := Part{At: at, Quoted: w.quote > 0}
	run := len(rest) - len(strings.TrimLeft(rest, "abcdefghijklmnopqrstuvwxyzABCDEFGHIJKLMNOPQRSTUVWXYZ_0123456789"))
	size := 2
	switch {
	case rest == "":
		return false
	case rest[0] == '{':
		n := strings.IndexByte(rest, '}')
		if n < 0 || !text.Name(rest[1:n]) {
			w.fail(at, api.ErrName)
			return true
		}
		p.Kind, p.S, size = PVar, rest[1:n], n+2
	case rest[0] == '(':
		n := slowCommand(rest[1:])
		if n < 0 {
			w.fail(at, api.ErrParen)
			return true
		}
		p.Kind, p.S, size = PSub, rest[1:1+n], n+3
	case rest[0] == '*':
		p.Kind, p.S = PVar, "*"
	case rest[0] == '#':
		p.Kind = PMany
	case strings.Contains("123456789", rest[:1]):
		p.Kind, p.N = PNum, int(rest[0])-48
	case run > 0 && rest[0] != '0':
		if run > 20 {
			w.fail(at, api.ErrName)
			return true
		}
		p.Kind, p.S, size = PVar, rest[:run], run+1
	default:
		return false
	}
	w.add(p, false)
	w.i += size
	return true
}

// slowCommand is where the `)` of a command's text stands, or -1: by all that is
// open at each byte.
func slowCommand(s string) int {
	open := []byte{'('}
	for i := 0; i < len(s); i++ {
		c, top := s[i], open[len(open)-1]
		switch {
		case top == '\'' && c != '\'':
		case top == '\'', top == '"' && c == '"':
			open = open[:len(open)-1]
		case c == '\\':
			i++
		case top == '"':
			if strings.HasPrefix(s[i:], "$(") {
				open = append(open, '(')
				i++
			}
		case c == ')':
			open = open[:len(open)-1]
			if len(open) == 0 {
				return i
			}
		case c == '(' || c == '\'' || c == '"':
			open = append(open, c)
		}
	}
	return -1
}

// merged is the parts, those that are bytes and neighbours made one.
func (w *slow) merged() []Part {
	var parts []Part
	for i, p := range w.pieces {
		if i > 0 && p.bytes && w.pieces[i-1].bytes && p.Kind == w.pieces[i-1].Kind && p.quote == w.pieces[i-1].quote {
			parts[len(parts)-1].S += p.S
			continue
		}
		parts = append(parts, p.Part)
	}
	return parts
}

// holds checks Lex of s against the chapter, and what follows from it.
func holds(t *testing.T, s string) {
	t.Helper()
	want, wrong := slowLex(s)
	l, err := Lex(s)
	if !reflect.DeepEqual(l, want) || !reflect.DeepEqual(err, wrong) {
		t.Fatalf("Lex(%q): %s, %v; not %s, %v", s, told(l), err, told(want), wrong)
	}
	if err == nil {
		staysInPrint(t, s, l)
	}
}

// staysInPrint checks that what is printed has these tokens, but for their
// places and how what is dead is put together.
func staysInPrint(t *testing.T, s string, l []Token) {
	t.Helper()
	printed := Print(l)
	again, err := Lex(printed)
	if err != nil || told(smooth(again)) != told(smooth(l)) {
		t.Fatalf("%q printed: %q: %s, %v; not %s", s, printed, told(smooth(again)), err, told(smooth(l)))
	}
}

// smooth is tokens without places, with dead parts that are neighbours made one,
// and those that are empty left out beside others.
func smooth(l []Token) []Token {
	var all []Token
	for _, x := range l {
		some := Token{Kind: x.Kind}
		for _, p := range x.Parts {
			last := len(some.Parts) - 1
			switch p.At = 0; {
			case p.Kind == PDead && p.S == "" && len(x.Parts) > 1:
			case p.Kind == PDead && last >= 0 && some.Parts[last].Kind == PDead:
				some.Parts[last].S += p.S
			default:
				some.Parts = append(some.Parts, p)
			}
		}
		if len(x.Parts) > 0 && len(some.Parts) == 0 {
			some.Parts = []Part{{Kind: PDead}}
		}
		all = append(all, some)
	}
	return all
}

// Every source of up to four of these.
func TestAllShortSources(t *testing.T) {
	signs := strings.Split("a 1 0 _ $ # * { } ( ) ' \" \\ ; & | < >", " ")
	signs = append(signs, " ", "\n", "\xff")
	some := []string{""}
	for range 4 {
		var longer []string
		for _, ahead := range some {
			for _, c := range signs {
				longer = append(longer, ahead+c)
				holds(t, ahead+c)
			}
		}
		some = longer
	}
}

// Longer ones, by a fixed rule: of single bytes, and of pieces that are often
// whole.
func TestManySources(t *testing.T) {
	r := rand.New(rand.NewSource(10))
	pieces := append(strings.Split("a1$#*{}()'\"\\;&|<>_0 \n\t", ""),
		"$(", "$(", "\"$(", ")\"", "${", "$x", "${x}", "\"\"", "''", "'a'", "\"a\"", "\\$", "\\\"", "\\\\", "\\)", "&&", "<<<", "a", "b", "c", ")", ")", "\"", "\"", "$"+fullName, "$"+fullName+"x", "$1", "$*", "$#")
	for range 200000 {
		var b strings.Builder
		for range 1 + r.Intn(14) {
			b.WriteString(pieces[r.Intn(len(pieces))])
		}
		holds(t, b.String())
	}
}

// nested is a command's text, or what is between two `"`, with others in it.
func nested(r *rand.Rand, between bool, deep int) string {
	var b strings.Builder
	for range r.Intn(4) {
		switch n := r.Intn(6); {
		case n == 0:
			b.WriteString("\\" + string("a)(\"'$\\"[r.Intn(7)]))
		case n == 1 && between:
			b.WriteString(string("()'#"[r.Intn(4)]))
		case n == 1:
			b.WriteString([]string{"'a'", "')'", "'('", "'\"'", "'\\'", "''"}[r.Intn(6)])
		case n == 2 && deep > 0 && !between:
			b.WriteString("(" + nested(r, false, deep-1) + ")")
		case n < 5 && deep > 0 && between:
			b.WriteString("$(" + nested(r, false, deep-1) + ")")
		case n < 5 && deep > 0:
			b.WriteString(`"` + nested(r, true, deep-1) + `"`)
		default:
			b.WriteString("a")
		}
	}
	return b.String()
}

// Commands within quotes within commands, as they are and with a byte too few,
// too many, or another.
func TestNestedCommands(t *testing.T) {
	r := rand.New(rand.NewSource(12))
	for range 10000 {
		within := nested(r, false, 6)
		s := "$(" + within + ")"
		if l, err := Lex(s); err != nil || len(l) != 2 || len(l[0].Parts) != 1 || l[0].Parts[0].S != within {
			t.Fatalf("Lex(%q): %s, %v", s, told(l), err)
		}
		holds(t, `a"`+s+`"b`)
		for range 5 {
			i, c := r.Intn(len(s)), string("()\"'\\$a "[r.Intn(8)])
			holds(t, s[:i]+s[i+1:])
			holds(t, s[:i]+c+s[i:])
			holds(t, s[:i]+c+s[i+1:])
		}
	}
}

// A source behind another and a newline has its tokens, or its error, there too.
func TestSourcesBehindSources(t *testing.T) {
	r := rand.New(rand.NewSource(11))
	bytes := "ab $#*{}()'\"\\;&|<> \n"
	source := func() string {
		b := make([]byte, r.Intn(9))
		for i := range b {
			b[i] = bytes[r.Intn(len(bytes))]
		}
		return string(b)
	}
	for range 200000 {
		one, two := source(), source()
		first, err := Lex(one)
		if err != nil || strings.HasSuffix(one, "\\") {
			continue
		}
		second, err := Lex(two)
		both, wrong := Lex(one + "\n" + two)
		moved := len(one) + 1
		if err != nil {
			var at *api.At
			if !errors.As(err, &at) || !reflect.DeepEqual(wrong, &api.At{Pos: at.Pos + moved, Err: at.Err}) {
				t.Fatalf("%q and %q: %v, %v", one, two, err, wrong)
			}
			continue
		}
		for i := range second {
			second[i].At += moved
			for j := range second[i].Parts {
				second[i].Parts[j].At += moved
			}
		}
		want := append(append(first[:len(first)-1:len(first)-1], Token{Kind: TLine, At: len(one)}), second...)
		if told(both) != told(want) || wrong != nil {
			t.Fatalf("%q and %q: %s, %v", one, two, told(both), wrong)
		}
	}
}
