package alex

import (
	"math"
	"reflect"
	"slices"
	"testing"
)

// word is a word of these parts.
func word(parts ...Part) Token { return Token{Kind: TWord, Parts: parts} }

// prints checks what tokens are printed as.
func prints(t *testing.T, want string, l ...Token) {
	t.Helper()
	if got := Print(l); got != want {
		t.Errorf("%+v: %q, not %q", l, got, want)
	}
}

// P10.3

func TestBare(t *testing.T) {
	for _, s := range []string{"a", "if", "$", "a$%#b", "*?[x]", "x=1", "}", "!", "\x00"} {
		if got, is := Bare(lexed(t, s)[0]); got != s || !is {
			t.Errorf("%q: %q, %v", s, got, is)
		}
	}
	if got, is := Bare(word(Part{Kind: PText})); got != "" || !is {
		t.Error(got, is)
	}
}

func TestNotBare(t *testing.T) {
	for _, s := range []string{"", "\n", ";", "(", "<", "'a'", `"a"`, `\a`, "''", `""`, "$x", "${x}", "$*", "$1", "$#", "$(a)", `"$x"`, `a\b`, "a''", "''a", "a$x", "$x-", `a"b"c`} {
		if got, is := Bare(lexed(t, s)[0]); got != "" || is {
			t.Errorf("%q: %q, %v", s, got, is)
		}
	}
	text := Part{Kind: PText, S: "a"}
	for _, x := range []Token{{}, word(), word(text, text), word(text, Part{}), word(Part{S: "a"}), word(Part{Kind: PDead, S: "a"}), word(Part{Kind: 7, S: "a"}),
		{Kind: TSemi, Parts: []Part{text}}, {Kind: TEnd, Parts: []Part{text}}, {Kind: TWord + 1, Parts: []Part{text}}, {Kind: -1, Parts: []Part{text}}} {
		if got, is := Bare(x); got != "" || is {
			t.Errorf("%+v: %q, %v", x, got, is)
		}
	}
}

func TestPrintSigns(t *testing.T) {
	a := word(Part{Kind: PText, S: "a"})
	for kind, sign := range []string{"", "\n", ";", ";;", "&&", "||", "|", "(", ")", "<", ">", ">>", "<<<"} {
		if kind == TEnd {
			continue
		}
		x := Token{Kind: kind}
		prints(t, sign, x)
		prints(t, sign+" "+sign, x, x)
		prints(t, "a "+sign+" a", a, x, a)
		prints(t, sign, Token{Kind: kind, At: 9, Parts: a.Parts})
	}
}

func TestPrintWords(t *testing.T) {
	for _, x := range []struct {
		want string
		p    Part
	}{
		{"a*\\", Part{Kind: PText, S: "a*\\"}}, {"$", Part{Kind: PText, S: "$"}}, {"a", Part{Kind: PText, S: "a", Quoted: true}}, {"", Part{Kind: PText}},
		{"''", Part{Kind: PDead}}, {"'a $x\"\\\n'", Part{Kind: PDead, S: "a $x\"\\\n"}}, {`''\'''`, Part{Kind: PDead, S: "'"}}, {`'a'\''b'\'''\''c'`, Part{Kind: PDead, S: "a'b''c"}}, {"'a'", Part{Kind: PDead, S: "a", Quoted: true}},
		{"${x}", Part{Kind: PVar, S: "x"}}, {`"${x}"`, Part{Kind: PVar, S: "x", Quoted: true}}, {"$*", Part{Kind: PVar, S: "*"}}, {`"$*"`, Part{Kind: PVar, S: "*", Quoted: true}},
		{"$1", Part{Kind: PNum, N: 1}}, {`"$9"`, Part{Kind: PNum, N: 9, Quoted: true}}, {"$#", Part{Kind: PMany}}, {`"$#"`, Part{Kind: PMany, Quoted: true}},
		{"$(a ')')", Part{Kind: PSub, S: "a ')'"}}, {`"$(a "b")"`, Part{Kind: PSub, S: `a "b"`, Quoted: true}}, {"$()", Part{Kind: PSub}}, {`"$()"`, Part{Kind: PSub, Quoted: true}},
	} {
		x.p.At = 7
		prints(t, x.want, word(x.p))
		prints(t, x.want+x.want+" "+x.want, word(x.p, x.p), word(x.p))
	}
}

func TestPrintLines(t *testing.T) {
	prints(t, "")
	if got := Print(nil); got != "" {
		t.Error(got)
	}
	a, line, end := word(Part{Kind: PText, S: "a"}), Token{Kind: TLine}, Token{Kind: TEnd}
	prints(t, "", end)
	prints(t, "a", a, end)
	prints(t, "a a", a, a, end)
	prints(t, "a \n a", a, line, a, end)
	prints(t, "\n \n", line, line, end)
	prints(t, "a a", a, end, a, end)
	prints(t, "a  a", a, word(), a)
}

func TestPrintOfTheExamples(t *testing.T) {
	prints(t, `a ''"${x}"b > f`, lexed(t, `a "$x"b>f`)...)
	prints(t, `$(a (b) ')')c`, lexed(t, `$(a (b) ')')c`)...)
}

// What is no token, and no part, is nothing.
func TestPrintNothing(t *testing.T) {
	for _, kind := range []int{math.MinInt, -1, TWord + 1, math.MaxInt} {
		prints(t, "", Token{Kind: kind, Parts: []Part{{Kind: PText, S: "a"}}})
	}
	for _, kind := range []int{math.MinInt, -1, 0, PMany + 1, math.MaxInt} {
		prints(t, "ab", word(Part{Kind: PText, S: "a"}, Part{Kind: kind, S: "x", N: 1, Quoted: true}, Part{Kind: PText, S: "b"}))
	}
}

// P10.4

// spoil writes over a list and all of its spare room.
func spoil[T any](list []T, with T) {
	all := list[:cap(list)]
	for i := range all {
		all[i] = with
	}
}

const manyWords = "a\\b'c'\"d$x e$1\"$(f)$* g $y$#\n;h '' \"\" >> \"$z\" $ i\\"

func TestListsAreNewMemory(t *testing.T) {
	want, first := lexed(t, manyWords), lexed(t, manyWords)
	for i := range first {
		spoil(first[i].Parts, Part{Kind: PText, S: "spoiled"})
		_ = append(first[i].Parts, Part{Kind: PText, S: "spoiled"})
		for j := i + 1; j < len(first); j++ {
			if told(first[j:j+1]) != told(want[j:j+1]) {
				t.Fatal("spoiled: ", i, j, told(first[j:j+1]))
			}
		}
	}
	spoil(first, Token{Kind: TSemi})
	if again := lexed(t, manyWords); !reflect.DeepEqual(again, want) || told(want) != told(again) {
		t.Error(told(want), told(again))
	}
}

func TestTokensHandedInStay(t *testing.T) {
	hidden := Part{Kind: PText, S: "hidden"}
	l := lexed(t, manyWords)
	for i := range l {
		l[i].Parts = append(slices.Clone(l[i].Parts), hidden, hidden)[:len(l[i].Parts)]
	}
	l = append(l, word(hidden), word(hidden))[:len(l)]
	if got, want := Print(l), Print(lexed(t, manyWords)); got != want {
		t.Errorf("%q, not %q", got, want)
	}
	bare := l[len(l)-2]
	for _, x := range append(slices.Clone(l), Token{Kind: TWord, Parts: []Part{hidden}[:0]}) {
		if s, is := Bare(x); is && (s == "hidden" || s == "") {
			t.Error(x)
		}
	}
	if told(l) != told(lexed(t, manyWords)) || l[:len(l)+1][len(l)].Parts[0] != hidden || bare.Parts[:len(bare.Parts)+1][len(bare.Parts)] != hidden {
		t.Error("what was handed in has changed:", told(l))
	}
}
