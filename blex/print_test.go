package blex

import (
	"math"
	"reflect"
	"strings"
	"testing"
)

// prints checks what tokens are printed as.
func prints(t *testing.T, want string, l ...Token) {
	t.Helper()
	if got := Print(l); got != want {
		t.Errorf("%+v: %q, not %q", l, got, want)
	}
}

// glued is the tokens, each with Glue.
func glued(l ...Token) []Token {
	for i := range l {
		l[i].Glue = true
	}
	return l
}

// P12.2

func TestPrintSigns(t *testing.T) {
	a := Token{Kind: TWord, S: "a"}
	for kind := TLine; kind < TWord; kind++ {
		sign := strings.ReplaceAll(kindNames[kind], "line", "\n")
		x := Token{Kind: kind}
		prints(t, sign, x)
		prints(t, sign+" "+sign, x, x)
		prints(t, "a "+sign+" a", a, x, a)
		prints(t, "a"+sign+"a", glued(a, x, a)...)
		prints(t, sign, Token{Kind: kind, At: 9, N: 3, S: "b"})
	}
}

func TestPrintWords(t *testing.T) {
	for _, x := range []struct {
		want string
		t    Token
	}{
		{"a*\\", Token{Kind: TWord, S: "a*\\"}}, {`"`, Token{Kind: TWord, S: `"`}}, {"", Token{Kind: TWord}},
		{"''", Token{Kind: TDead}}, {"'a $x\"\\\n'", Token{Kind: TDead, S: "a $x\"\\\n"}}, {"''''", Token{Kind: TDead, S: "'"}}, {"''''''", Token{Kind: TDead, S: "''"}}, {"'a''b''''c'", Token{Kind: TDead, S: "a'b''c"}},
		{"$x", Token{Kind: TVar, S: "x"}}, {"$*", Token{Kind: TVar, S: "*"}}, {"$#x", Token{Kind: TCount, S: "x"}}, {"$#*", Token{Kind: TCount, S: "*"}}, {`$"x`, Token{Kind: TFlat, S: "x"}}, {`$"*`, Token{Kind: TFlat, S: "*"}},
		{"$1", Token{Kind: TNum, N: 1}}, {"$9", Token{Kind: TNum, N: 9}}, {"$4", Token{Kind: TNum, N: 4, S: "x"}},
	} {
		x.t.At = 7
		prints(t, x.want, x.t)
		prints(t, x.want+" "+x.want, x.t, x.t)
		prints(t, x.want+x.want, glued(x.t, x.t)...)
	}
}

func TestPrintSpaces(t *testing.T) {
	prints(t, "")
	a, line, end := Token{Kind: TWord, S: "a"}, Token{Kind: TLine}, Token{Kind: TEnd}
	prints(t, "", end)
	prints(t, "", glued(end)...)
	prints(t, "a", glued(a)...)
	prints(t, "a ", a, end)
	prints(t, "a", a, Token{Kind: TEnd, Glue: true})
	prints(t, "a \n a ", a, line, a, end)
	prints(t, "a\na", glued(a, line, a, end)...)
	prints(t, "\n \n", line, line, Token{Kind: TEnd, Glue: true})
	if got := Print(nil); got != "" {
		t.Error(got)
	}
}

func TestPrintOfSources(t *testing.T) {
	for s, want := range map[string]string{
		"x=(a 'b''c')": "x=(a 'b''c')", `$#x^$"y`: `$#x^$"y`, "": "", "  ": "", " a": "a", "a ": "a ", "a\t \tb": "a b", "a#b": "a ", "a #b\n c": "a \n c",
		"#b\na": "\na", "`{a}^'' $1$*;!b>>f": "`{a}^'' $1$*;!b>>f", "< < <<<<": "< < <<<<", "a\n\n": "a\n\n", "a\n#\n": "a\n \n",
	} {
		prints(t, want, lexed(t, s)...)
	}
}

// What is no token is nothing.
func TestPrintNothing(t *testing.T) {
	for _, kind := range []int{math.MinInt, -1, TNum + 1, math.MaxInt} {
		prints(t, "", Token{Kind: kind, N: 1, S: "a"})
		prints(t, "a", Token{Kind: TWord, S: "a"}, Token{Kind: kind, N: 1, S: "b", Glue: true})
	}
	for _, n := range []int{math.MinInt, -1, 0, 10, math.MaxInt} {
		if got := Print([]Token{{Kind: TNum, N: n}}); !strings.HasPrefix(got, "$") {
			t.Errorf("%d: %q", n, got)
		}
	}
}

// P12.3

const manyTokens = "x=(a 'b''c' `{d}) $#y^$\"z$1 >> f#g\n;h '' $*"

func TestListsAreNewMemory(t *testing.T) {
	want, first := lexed(t, manyTokens), lexed(t, manyTokens)
	spoiled := Token{Kind: TWord, At: 1, N: 1, S: "spoiled", Glue: true}
	_ = append(first, spoiled)
	all := first[:cap(first)]
	for i := range all {
		all[i] = spoiled
	}
	if again := lexed(t, manyTokens); !reflect.DeepEqual(again, want) || told(want) != told(again) {
		t.Error(told(want), told(again))
	}
}

func TestTokensHandedInStay(t *testing.T) {
	hidden := Token{Kind: TWord, S: "hidden"}
	l := append(lexed(t, manyTokens), hidden, hidden)
	l = l[:len(l)-2]
	if got, want := Print(l), Print(lexed(t, manyTokens)); got != want {
		t.Errorf("%q, not %q", got, want)
	}
	if behind := l[len(l) : len(l)+2]; told(l) != told(lexed(t, manyTokens)) || behind[0] != hidden || behind[1] != hidden {
		t.Error("what was handed in has changed:", told(l))
	}
}
