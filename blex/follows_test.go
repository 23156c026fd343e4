package blex

import (
	"errors"
	"math/rand"
	"reflect"
	"regexp"
	"strings"
	"testing"

	"patois/api"
)

// The chapter once more, as one expression of what is passed over and of all
// that a token can be, each kind of it a group. The tests below hold Lex
// against it.
var (
	passed = regexp.MustCompile(`^[ \t]*(?:#[^\n]*)?`)
	slow   = regexp.MustCompile("^(?:(<<<|>>|&&|\\|\\||`\\{|[\n;|(){}<>^=!])" + `|('(?:[^']|'')*')|(\$[#"]?)(\*|[A-Za-z_][A-Za-z_0-9]*)|\$([1-9])|` + "([^ \t\n;&|(){}<>^=!$`'#]+))")
)

// slowLex is the tokens of s, which is no longer than a source may be.
func slowLex(s string) ([]Token, error) {
	var l []Token
	for i := 0; ; {
		t := Token{At: i + len(passed.FindString(s[i:]))}
		t.Glue = len(l) > 0 && t.At == i
		if t.At == len(s) {
			return append(l, t), nil
		}
		m := slow.FindStringSubmatch(s[t.At:])
		if m == nil {
			return nil, &api.At{Pos: t.At, Err: map[byte]error{'\'': api.ErrQuote, '$': api.ErrName, '&': api.ErrToken, '`': api.ErrToken}[s[t.At]]}
		}
		i = t.At + len(m[0])
		// Quotes that do not end are matched up to the first of two that are one.
		if m[2] != "" && strings.HasPrefix(s[i:], "'") {
			return nil, &api.At{Pos: t.At, Err: api.ErrQuote}
		}
		if len(m[4]) > api.MaxName {
			return nil, &api.At{Pos: t.At, Err: api.ErrName}
		}
		slowKind(&t, m)
		l = append(l, t)
	}
}

// slowKind fills t by the groups that matched.
func slowKind(t *Token, m []string) {
	switch {
	case m[1] != "":
		for kind, name := range kindNames[:TWord] {
			if strings.ReplaceAll(name, "line", "\n") == m[1] {
				t.Kind = kind
			}
		}
	case m[2] != "":
		t.Kind, t.S = TDead, strings.ReplaceAll(m[2][1:len(m[2])-1], "''", "'")
	case m[3] != "":
		t.Kind, t.S = map[string]int{"$": TVar, "$#": TCount, `$"`: TFlat}[m[3]], m[4]
	case m[5] != "":
		t.Kind, t.N = TNum, int(m[5][0]-'0')
	default:
		t.Kind, t.S = TWord, m[6]
	}
}

// holds checks Lex of s against the chapter, and that what is printed has these
// tokens, but for their places.
func holds(t *testing.T, s string) {
	t.Helper()
	want, wrong := slowLex(s)
	l, err := Lex(s)
	if !reflect.DeepEqual(l, want) || !reflect.DeepEqual(err, wrong) {
		t.Fatalf("Lex(%q): %s, %v; not %s, %v", s, told(l), err, told(want), wrong)
	}
	if err == nil {
		staysInPrint(t, l)
	}
}

// staysInPrint checks that what is printed has these tokens, but for their places.
func staysInPrint(t *testing.T, l []Token) {
	t.Helper()
	again, err := Lex(Print(l))
	if err != nil || told(placeless(again)) != told(placeless(l)) {
		t.Fatalf("printed: %q: %s, %v; not %s", Print(l), told(again), err, told(l))
	}
}

func placeless(l []Token) []Token {
	all := append([]Token(nil), l...)
	for i := range all {
		all[i].At = 0
	}
	return all
}

// Every source of up to four of these.
func TestAllShortSources(t *testing.T) {
	signs := strings.Split("a 1 0 $ # * { } ( ) ' \" ` ; & | < > ^ = !", " ")
	signs = append(signs, " ", "\n", "\xff")
	some := []string{""}
	for range 4 {
		var longer []string
		for _, ahead := range some {
			for _, c := range signs {
				longer = append(longer, ahead+c)
				holds(t, ahead+c)
			}
		}
		some = longer
	}
}

// Longer ones, by a fixed rule: of single bytes, and of pieces that are often
// whole.
func TestManySources(t *testing.T) {
	r := rand.New(rand.NewSource(12))
	pieces := append(strings.Split("a1$#*{}()'\"\\;&|<>^=!_0` \n\t", ""),
		"$x", "$#x", "$\"x", "$*", "$#*", "$\"*", "$1", "$9", "`{", "`{", "''", "'a'", "'", "'b", "c'", "&&", "<<<", ">>", "a", "b", "c", "if", "x=", " ", " ", "#d\n", "$"+fullName, "$#"+fullName+"x")
	for range 100000 {
		var b strings.Builder
		for range 1 + r.Intn(14) {
			b.WriteString(pieces[r.Intn(len(pieces))])
		}
		holds(t, b.String())
	}
}

// Tokens made by a fixed rule, with Glue only where what is printed stays apart,
// and the end.
func TestManyTokens(t *testing.T) {
	r := rand.New(rand.NewSource(13))
	for range 50000 {
		var l []Token
		for range r.Intn(8) {
			l = append(l, someToken(r))
		}
		l = append(l, Token{Kind: TEnd})
		for i := 1; i < len(l); i++ {
			l[i].Glue = r.Intn(2) == 0 && apart(l[i-1], l[i])
		}
		staysInPrint(t, l)
	}
}

func someToken(r *rand.Rand) Token {
	kind := 1 + r.Intn(TNum)
	switch kind {
	case TWord:
		return Token{Kind: kind, S: []string{"a", "if", "9", `\`, `"`, "*.c", "[a-b]?", "\x00\xff"}[r.Intn(8)]}
	case TDead:
		return Token{Kind: kind, S: []string{"", "'", "''", "a'b", " \n#$`&", "x"}[r.Intn(6)]}
	case TVar, TCount, TFlat:
		return Token{Kind: kind, S: []string{"x", "*", "_1", fullName}[r.Intn(4)]}
	case TNum:
		return Token{Kind: kind, N: 1 + r.Intn(9)}
	}
	return Token{Kind: kind}
}

// apart answers whether b may stand right behind a: whether no sign, quote, word
// or name goes on into it.
func apart(a, b Token) bool {
	const grow = "|&<>"
	ahead, behind := printed(a), printed(b)
	switch {
	case behind == "":
		return true
	case a.Kind == TWord || a.Kind == TDead:
		return a.Kind != b.Kind
	case a.Kind >= TVar && a.Kind <= TFlat && a.S != "*":
		return b.Kind != TWord
	}
	return !strings.Contains(grow, behind[:1]) || ahead[len(ahead)-1] != behind[0]
}

// A source behind another and a newline has its tokens, or its error, there too.
func TestSourcesBehindSources(t *testing.T) {
	r := rand.New(rand.NewSource(14))
	bytes := "ab1$#*{}()'\"`;&|<>^=! \n"
	source := func() string {
		b := make([]byte, r.Intn(9))
		for i := range b {
			b[i] = bytes[r.Intn(len(bytes))]
		}
		return string(b)
	}
	for range 100000 {
		one, two := source(), source()
		if _, err := Lex(one); err != nil {
			continue
		}
		first := lexed(t, one+"\n")
		second, wrong := moved(two, len(one)+1)
		both, err := Lex(one + "\n" + two)
		if wrong == nil {
			second = append(first[:len(first)-1:len(first)-1], second...)
		}
		if told(both) != told(second) || !reflect.DeepEqual(err, wrong) {
			t.Fatalf("%q and %q: %s, %v; not %s, %v", one, two, told(both), err, told(second), wrong)
		}
	}
}

// moved is what Lex answers of a source that stands further behind, where a
// token ended.
func moved(s string, by int) ([]Token, error) {
	l, err := Lex(s)
	var at *api.At
	if errors.As(err, &at) {
		return nil, &api.At{Pos: at.Pos + by, Err: at.Err}
	}
	for i := range l {
		l[i].Glue = l[i].Glue || l[i].At == 0
		l[i].At += by
	}
	return l, err
}
