package cscan

import (
	"reflect"
	"regexp"
	"strings"
	"testing"

	"patois/api"
)

// P14.3

func TestText(t *testing.T) {
	for _, x := range []struct {
		word, text string
		is         bool
	}{
		{"a", "a", true}, {"{a b}", "a b", true}, {"{}", "", true}, {`""`, "", true}, {`"a b"`, "a b", true}, {`a\nb`, "a\nb", true}, {"{$x}", "$x", true}, {"{[a]}", "[a]", true}, {`\$x`, "$x", true}, {"$", "$", true},
		{"$x", "", false}, {"a$x", "", false}, {"$xa-", "", false}, {"[a]", "", false}, {"a[b]c", "", false}, {"$1", "", false}, {"$*", "", false}, {`"$x"`, "", false}, {`"[a]"`, "", false}, {`"a $1"`, "", false},
	} {
		l := scanned(t, x.word)
		if s, is := Text(l[0].Words[0]); s != x.text || is != x.is {
			t.Errorf("Text of %q: %q, %v", x.word, s, is)
		}
	}
}

// Words that no source has.
func TestTextOfOtherWords(t *testing.T) {
	a := Part{Kind: PText, S: "a"}
	for _, w := range []Word{{}, {Braced: true}, {Parts: []Part{}}, {Parts: []Part{a, a}}, {Parts: []Part{{}}}, {Parts: []Part{{Kind: -1, S: "a"}}}, {Parts: []Part{{Kind: 5, S: "a"}}}, {Parts: []Part{{S: "a"}}}, {Parts: []Part{a}[:0]}, {Parts: []Part{a, {Kind: PText}}}} {
		if s, is := Text(w); s != "" || is {
			t.Errorf("Text(%v): %q, %v", w, s, is)
		}
	}
	if s, is := Text(Word{At: -3, Parts: []Part{{Kind: PText, At: 9, N: 7, S: "a"}, a}[:1]}); s != "a" || !is {
		t.Error(s, is)
	}
}

func TestBrace(t *testing.T) {
	for _, s := range []string{"", "a", " ", "a b;\n", "{}", "{a} {b}", "a{b{c}d}e", `\}`, `\{`, `\\`, `\\\}`, "#", "[", "]", `"`, "$x", "\x00\xff", `{\}}`, strings.Repeat("a", api.MaxSource-2)} {
		if got, is := Brace(s); got != "{"+s+"}" || !is {
			t.Errorf("Brace(%.50q): %.50q, %v", s, got, is)
		}
	}
}

// Some of these are a word of less than that, and something behind it that has
// no words.
func TestNoBrace(t *testing.T) {
	for _, s := range []string{"a}", "}", "{", "}{", "{a", `\`, `\\\`, `{\}`, "{}}", "}}", "} {", "};{", "}\n{", "a}#", "a};#", "a}\n#", "a};;\n #", "a} ", "a};", "}\n#{", strings.Repeat("a", api.MaxSource-1), strings.Repeat("a", api.MaxSource+1)} {
		if got, is := Brace(s); got != "" || is {
			t.Errorf("Brace(%.50q): %.50q, %v", s, got, is)
		}
	}
}

func TestQuote(t *testing.T) {
	for _, x := range [][2]string{
		{"a b", `"a b"`}, {"", `""`}, {" ", `" "`}, {"\t", "\"\t\""}, {"\n", "\"\n\""}, {"a\nb\tc", "\"a\nb\tc\""}, {";", `";"`}, {"a;#b", `"a;#b"`}, {"a\n", "\"a\n\""}, {"a ", `"a "`}, {" a", `" a"`},
		{"#", `"#"`}, {"#a", `"#a"`}, {"{", `"{"`}, {"{a}", `"{a}"`}, {"{}", `"{}"`}, {`"`, `"\""`}, {`"a"`, `"\"a\""`}, {`""`, `"\"\""`}, {`a "b`, `"a \"b"`},
		{`\`, `"\\"`}, {`a\`, `"a\\"`}, {`\\`, `"\\\\"`}, {`a\b`, `"a\\b"`}, {`\n`, `"\\n"`}, {"$x", `"\$x"`}, {"a$x", `"a\$x"`}, {"$1", `"\$1"`}, {"$*", `"\$*"`}, {"$$x", `"\$\$x"`}, {"$ ", `"\$ "`},
		{"[", `"\["`}, {"[a]", `"\[a]"`}, {"a[", `"a\["`}, {"[[", `"\[\["`}, {`" \ $ [ ] { }`, `"\" \\ \$ \[ ] { }"`}, {"$" + fullName + "x", `"\$` + fullName + `x"`},
	} {
		if got := Quote(x[0]); got != x[1] {
			t.Errorf("Quote(%q): %q, not %q", x[0], got, x[1])
		}
	}
}

func TestQuoteOfBareWords(t *testing.T) {
	for _, s := range []string{"a", "set", "a#", "a#b", "a{", "a{b}", "}", "]", "]a]", `a"`, `a"b"`, "$", "$$", "a$", "$0", "$-x", "${x}", "'", "*.c", "é", "\x00", "\xff", "\r", "a=b&|<>()", strings.Repeat("a", api.MaxSource-1)} {
		if got := Quote(s); got != s {
			t.Errorf("Quote(%.50q): %.50q", s, got)
		}
	}
}

// What no source has room for is read as nothing: it is quoted, with the space
// behind it that a bare word is tried with.
func TestQuoteOfLongTexts(t *testing.T) {
	for _, n := range []int{api.MaxSource, api.MaxSource + 1, 3 * api.MaxSource} {
		if s := strings.Repeat("a", n); Quote(s) != `"`+s+`"` {
			t.Error(n)
		}
		if s := strings.Repeat("$", n); Quote(s) != `"`+strings.Repeat(`\$`, n)+`"` {
			t.Error(n)
		}
	}
}

// What makes a text no bare word: by one expression.
var notBare = regexp.MustCompile(`^$|^[#{"]|[ \t\n;\\[]|\$[*1-9A-Za-z_]`)

// saidAgain checks Quote and Brace of s: what they are, and how they are read,
// wherever they stand.
func saidAgain(t *testing.T, s string) {
	t.Helper()
	quoted := Quote(s)
	want := s
	if notBare.MatchString(s) {
		want = `"` + regexp.MustCompile(`["\\$[]`).ReplaceAllString(s, `\$0`) + `"`
	}
	braced, is := Brace(s)
	if quoted != want || is != (slowEnd("{"+s+"}") == len(s)+1) {
		t.Fatalf("%q: %q, not %q; %q, %v", s, quoted, want, braced, is)
	}
	for _, around := range [][2]string{{"", ""}, {"", " "}, {"x ", " y"}, {"x;", ";y"}, {"\n\t", "\n#"}} {
		readAs(t, around[0], quoted, around[1], s, false)
		if is {
			readAs(t, around[0], braced, around[1], s, true)
		}
	}
}

// readAs checks that word is read as just s, with something ahead and behind.
func readAs(t *testing.T, ahead, word, behind, s string, braced bool) {
	t.Helper()
	for _, c := range scanned(t, ahead+word+behind) {
		for _, w := range c.Words {
			if got, is := Text(w); w.At == len(ahead) && is && got == s && w.Braced == braced {
				return
			}
		}
	}
	t.Fatalf("%q is not read as %q", ahead+word+behind, s)
}

func TestAllShortTexts(t *testing.T) {
	signs := strings.Split("a n 1 0 $ # * { } [ ] \" \\ ;", " ")
	signs = append(signs, " ", "\n", "\xff")
	some := []string{""}
	saidAgain(t, "")
	for range 4 {
		var longer []string
		for _, ahead := range some {
			for _, c := range signs {
				longer = append(longer, ahead+c)
				saidAgain(t, ahead+c)
			}
		}
		some = longer
	}
}

// P14.4

const manyCommands = "set x {a b}; put \"$x [y]\" $1a[b]c ; {d} \"\" e\\nf \\\n\nif {g} $*$*$2h\n[i][j] k{l}"

// spoil writes over a list and all of its spare room.
func spoil[T any](list []T, with T) {
	all := list[:cap(list)]
	for i := range all {
		all[i] = with
	}
}

// Each list is spoiled, from the last to the first and the innermost first: all
// that stand ahead of it are as they were.
func TestListsAreNewMemory(t *testing.T) {
	want, first := scanned(t, manyCommands), scanned(t, manyCommands)
	bad := Part{Kind: PNum, At: 7, N: 7, S: "spoiled"}
	for i := len(first) - 1; i >= 0; i-- {
		words := first[i].Words
		for j := len(words) - 1; j >= 0; j-- {
			spoil(words[j].Parts, bad)
			if told(first[:i]) != told(want[:i]) || !reflect.DeepEqual(words[:j], want[i].Words[:j]) {
				t.Fatal("spoiled: ", i, j, told(first))
			}
		}
		spoil(words, Word{At: 7, Parts: []Part{bad}})
		if told(first[:i]) != told(want[:i]) {
			t.Fatal("spoiled: ", i, told(first))
		}
	}
	spoil(first, Command{At: 7})
	if again := scanned(t, manyCommands); !reflect.DeepEqual(again, want) {
		t.Error(told(want), told(again))
	}
}

// And what stands behind a list, likewise.
func TestListsShareNothingBehind(t *testing.T) {
	want, first := scanned(t, manyCommands), scanned(t, manyCommands)
	for i := range first {
		for j, w := range first[i].Words {
			spoil(w.Parts, Part{Kind: PNum, S: "spoiled"})
			if !reflect.DeepEqual(first[i].Words[j+1:], want[i].Words[j+1:]) || !reflect.DeepEqual(first[i+1:], want[i+1:]) {
				t.Fatal("spoiled: ", i, j, told(first))
			}
		}
		spoil(first[i].Words, Word{At: 7})
		if !reflect.DeepEqual(first[i+1:], want[i+1:]) {
			t.Fatal("spoiled: ", i, told(first))
		}
	}
}

func TestWordsHandedInStay(t *testing.T) {
	hidden := Part{Kind: PVar, S: "hidden"}
	parts := []Part{{Kind: PText, At: 1, S: "a"}, hidden}
	if s, is := Text(Word{Parts: parts[:1]}); s != "a" || !is {
		t.Error(s, is)
	}
	if !reflect.DeepEqual(parts, []Part{{Kind: PText, At: 1, S: "a"}, hidden}) {
		t.Error("what was handed in has changed:", parts)
	}
}
