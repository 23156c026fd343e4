package blex

import (
	"errors"
	"fmt"
	"strings"
	"testing"

	"patois/api"
)

// kindNames is a name for each kind of token: of a sign itself, but of a newline.
var kindNames = strings.Fields("end line ; && || | ( ) { } `{ < > >> <<< ^ = ! word dead var count flat num")

// told is tokens as text: kind and place, g for Glue, N and S where there are some.
func told(l []Token) string {
	var all []string
	for _, t := range l {
		one := fmt.Sprint(kindNames[t.Kind], t.At)
		if t.Glue {
			one += "g"
		}
		if t.N != 0 {
			one += fmt.Sprint("#", t.N)
		}
		if t.S != "" || t.Kind == TDead {
			one += "(" + t.S + ")"
		}
		all = append(all, one)
	}
	return strings.Join(all, " ")
}

// src is a source, and what is told of it.
type src [2]string

// lexed is the tokens of a source that has some.
func lexed(t *testing.T, s string) []Token {
	t.Helper()
	l, err := Lex(s)
	if err != nil {
		t.Fatalf("Lex(%.100q): %v", s, err)
	}
	return l
}

// lexes checks the tokens of sources.
func lexes(t *testing.T, sources ...src) {
	t.Helper()
	for _, x := range sources {
		if l, err := Lex(x[0]); told(l) != x[1] || err != nil {
			t.Errorf("Lex(%.100q): %.300s, %v; not %.300s", x[0], told(l), err, x[1])
		}
	}
}

// isOne checks sources that are one token, without its place, and the end.
func isOne(t *testing.T, sources ...src) {
	t.Helper()
	for _, x := range sources {
		kind, rest, _ := strings.Cut(x[1], " ")
		lexes(t, src{x[0], fmt.Sprintf("%s0%s end%dg", kind, rest, len(x[0]))})
	}
}

// refuses checks that sources are refused with that error at that place, also
// where other errors stand behind it.
func refuses(t *testing.T, want error, at int, sources ...string) {
	t.Helper()
	for _, s := range sources {
		l, err := Lex(s)
		var place *api.At
		if len(l) > 0 || !errors.As(err, &place) || *place != (api.At{Pos: at, Err: want}) || err != error(place) {
			t.Errorf("Lex(%.100q): %.300s, %v; not %v at %d", s, told(l), err, want, at)
		}
	}
}

// The numbers are the chapter's.
func TestKinds(t *testing.T) {
	for i, kind := range []int{TEnd, TLine, TSemi, TAnd, TOr, TPipe, TOpen, TClose, TLeft, TRight, TTick, TIn, TOut, TMore, THere, TCaret, TIs, TNot, TWord, TDead, TVar, TCount, TFlat, TNum} {
		if i != kind {
			t.Error(i, kind)
		}
	}
}

// P12.1

func TestExamples(t *testing.T) {
	lexes(t,
		src{"x=(a 'b''c')", "word0(x) =1g (2g word3g(a) dead5(b'c) )11g end12g"},
		src{`$#x^$"y`, "count0(x) ^3g flat4g(y) end7g"},
	)
	refuses(t, api.ErrName, 0, "$")
}

func TestUpToMaxSource(t *testing.T) {
	for _, n := range []int{api.MaxSource - 1, api.MaxSource} {
		s := strings.Repeat("a", n)
		isOne(t, src{s, "word (" + s + ")"})
	}
	within := strings.Repeat("''", api.MaxSource/2-1)
	isOne(t, src{"'" + within + "'", "dead (" + within[len(within)/2:] + ")"})
	for _, s := range []string{strings.Repeat(" ", api.MaxSource), "#" + strings.Repeat("x", api.MaxSource-1)} {
		lexes(t, src{s, fmt.Sprint("end", api.MaxSource)})
	}
	if l := lexed(t, strings.Repeat("\n", api.MaxSource)); len(l) != api.MaxSource+1 {
		t.Error(len(l))
	}
}

// It is told ahead of all that is wrong in the source, and has no place.
func TestPastMaxSource(t *testing.T) {
	for _, n := range []int{api.MaxSource + 1, api.MaxSource + 2, 3 * api.MaxSource} {
		for _, c := range []string{"a", "&", "'", "$", "`", " ", "#", "\n"} {
			if l, err := Lex(strings.Repeat(c, n)); len(l) > 0 || err != api.ErrLong {
				t.Errorf("Lex of %d %q: %d tokens, %v", n, c, len(l), err)
			}
		}
	}
}

func TestTheEnd(t *testing.T) {
	lexes(t,
		src{"", "end0"}, src{" ", "end1"}, src{" \t \t", "end4"}, src{"#", "end1"}, src{"# a 'b & $", "end10"},
		src{"\n", "line0 end1g"}, src{"a", "word0(a) end1g"}, src{"a ", "word0(a) end2"}, src{"a#", "word0(a) end2"}, src{"a\n", "word0(a) line1g end2g"}, src{"a\t#b", "word0(a) end4"},
	)
}

func TestSigns(t *testing.T) {
	for kind := TLine; kind < TWord; kind++ {
		name, sign := kindNames[kind], strings.ReplaceAll(kindNames[kind], "line", "\n")
		n := len(sign)
		isOne(t, src{sign, name + " "})
		lexes(t,
			src{" \t" + sign + "\t ", fmt.Sprintf("%s2 end%d", name, n+4)},
			src{"a" + sign + "b", fmt.Sprintf("word0(a) %s1g word%dg(b) end%dg", name, n+1, n+2)},
			src{"a " + sign + " b", fmt.Sprintf("word0(a) %s2 word%d(b) end%dg", name, n+3, n+4)},
			src{"''" + sign + "''", fmt.Sprintf("dead0() %s2g dead%dg() end%dg", name, n+2, n+4)},
			src{"$x" + sign + "$1", fmt.Sprintf("var0(x) %s2g num%dg#1 end%dg", name, n+2, n+4)},
			src{sign + "#" + sign[:n-1], fmt.Sprintf("%s0 end%d", name, 2*n)},
		)
	}
}

func TestTheLongestSign(t *testing.T) {
	lexes(t,
		src{";;", ";0 ;1g end2g"}, src{"&&&&", "&&0 &&2g end4g"},
		src{"|||", "||0 |2g end3g"}, src{"| ||", "|0 ||2 end4g"}, src{"||||", "||0 ||2g end4g"}, src{"| |", "|0 |2 end3g"},
		src{"<<", "<0 <1g end2g"}, src{"<<<", "<<<0 end3g"}, src{"<<<<", "<<<0 <3g end4g"}, src{"<<<<<", "<<<0 <3g <4g end5g"}, src{"<<<<<<", "<<<0 <<<3g end6g"}, src{"<< <", "<0 <1g <3 end4g"},
		src{">>>", ">>0 >2g end3g"}, src{">>>>", ">>0 >>2g end4g"}, src{"> >>", ">0 >>2 end4g"}, src{"<>", "<0 >1g end2g"}, src{"><", ">0 <1g end2g"},
		src{"`{{", "`{0 {2g end3g"}, src{"`{`{", "`{0 `{2g end4g"}, src{"{`{}}", "{0 `{1g }3g }4g end5g"}, src{"==", "=0 =1g end2g"}, src{"!=", "!0 =1g end2g"}, src{"^^", "^0 ^1g end2g"}, src{"!!", "!0 !1g end2g"},
		src{"(())", "(0 (1g )2g )3g end4g"}, src{"\n\n", "line0 line1g end2g"}, src{";\n;", ";0 line1g ;2g end3g"},
	)
}

func TestOneAndAlone(t *testing.T) {
	refuses(t, api.ErrToken, 0, "&", "& &", "& &&", "&a", "&;", "&\n", "& '", "& $", "& `", "&#", "&|", "&"+strings.Repeat(" ", api.MaxSource-1))
	refuses(t, api.ErrToken, 1, "a&", "a&b", " &", "\t&", ";&", "|&", "(&)", "\n&", ">&1", "a& &&", "^&")
	refuses(t, api.ErrToken, 2, "&&&", "a & b", "''&", "$x&", "$1&", "`{&", `\a&`)
	refuses(t, api.ErrToken, 4, "&&&&&", "'a' & b", "$#x &")
	lexes(t, src{"a&&b", "word0(a) &&1g word3g(b) end4g"}, src{"'&'", "dead0(&) end3g"}, src{"#&\n", "line2 end3g"})
}

func TestTickAlone(t *testing.T) {
	refuses(t, api.ErrToken, 0, "`", "``", "`a", "` {", "`\n{", "`}", "`'{'", "`#{", "`(a)", "``{", "` '", "` $", "`&")
	refuses(t, api.ErrToken, 1, "a`", "a`b", " `", "{`", "^`a", `\`+"`")
	refuses(t, api.ErrToken, 2, "`{`", "a `", "''`", "$x`")
	lexes(t, src{"a`{b}", "word0(a) `{1g word3g(b) }4g end5g"}, src{"'`'", "dead0(`) end3g"}, src{"#`\n", "line2 end3g"})
}

func TestComments(t *testing.T) {
	lexes(t,
		src{"#a\nb", "line2 word3g(b) end4g"}, src{" #a\n#b\n", "line3 line6 end7g"}, src{"#\n", "line1 end2g"},
		src{"a #b", "word0(a) end4"}, src{"a#b\nc", "word0(a) line3 word4g(c) end5g"}, src{"a;#b", "word0(a) ;1g end4"}, src{"a|#b\nc", "word0(a) |1g line4 word5g(c) end6g"},
		src{"(#)", "(0 end3"}, src{"x=#a", "word0(x) =1g end4"}, src{"''#b", "dead0() end4"}, src{"$x#b", "var0(x) end4"}, src{"$1#b\n", "num0#1 line4 end5g"}, src{"$*#", "var0(*) end3"}, src{"`{#}\n}", "`{0 line4 }5g end6g"},
		src{`\#a`, `word0(\) end3`}, src{"\t## '$`&\\\n#", "line9 end11"}, src{"#a\\\nb", "line3 word4g(b) end5g"}, src{"# a\r\n", "line4 end5g"},
		src{"'#'", "dead0(#) end3g"}, src{"$#x#y", "count0(x) end5"}, src{"a# b # c\n  d", "word0(a) line8 word11(d) end12g"},
	)
}

func TestWords(t *testing.T) {
	isOne(t, src{"a", "word (a)"}, src{`a\"[b]*?`, `word (a\"[b]*?)`}, src{`"a"`, `word ("a")`}, src{`\`, `word (\)`}, src{`\\`, `word (\\)`}, src{"~/a.c,-+%:@1_", "word (~/a.c,-+%:@1_)"},
		src{"0", "word (0)"}, src{"]", "word (])"}, src{"é\u00a0\u2028", "word (é\u00a0\u2028)"}, src{"\x00\xff\r\v\f\x85", "word (\x00\xff\r\v\f\x85)"}, src{"if", "word (if)"}, src{strings.Repeat("a", api.MaxName+1), "word (" + strings.Repeat("a", api.MaxName+1) + ")"})
	lexes(t,
		src{"a b\tc\nd", "word0(a) word2(b) word4(c) line5g word6g(d) end7g"}, src{`\ a\`, `word0(\) word2(a\) end4g`}, src{`\'a'`, `word0(\) dead1g(a) end4g`}, src{`"a b"`, `word0("a) word3(b") end5g`},
		src{"a'b'c", "word0(a) dead1g(b) word4g(c) end5g"}, src{"a$x", "word0(a) var1g(x) end3g"}, src{"a!b^c=d", "word0(a) !1g word2g(b) ^3g word4g(c) =5g word6g(d) end7g"},
	)
}

// Of all bytes, only these end a word, and begin something else.
func TestEveryByte(t *testing.T) {
	for i := range 256 {
		c := string([]byte{byte(i)})
		if strings.Contains(" \t\n;&|(){}<>^=!$`'#", c) {
			l, err := Lex("a" + c)
			if err == nil && l[0].S != "a" {
				t.Errorf("a byte of a word: %q", c)
			}
			continue
		}
		isOne(t, src{c, "word (" + c + ")"}, src{c + c, "word (" + c + c + ")"}, src{"a" + c + "b", "word (a" + c + "b)"})
	}
	for i := range 256 {
		if c := string([]byte{byte(i)}); c != "'" {
			isOne(t, src{"'" + c + "'", "dead (" + c + ")"})
		}
	}
}

func TestGlue(t *testing.T) {
	lexes(t,
		src{"a", "word0(a) end1g"}, src{" a", "word1(a) end2g"}, src{"#\na", "line1 word2g(a) end3g"}, src{"''", "dead0() end2g"}, src{"$x", "var0(x) end2g"},
		src{"''''a''", "dead0(') word4g(a) dead5g() end7g"}, src{"$x$y $z", "var0(x) var2g(y) var5(z) end7g"}, src{"$1$2", "num0#1 num2g#2 end4g"}, src{"a^b ^ c", "word0(a) ^1g word2g(b) ^4 word6(c) end7g"},
		src{"(a) (b)", "(0 word1g(a) )2g (4 word5g(b) )6g end7g"}, src{"a\tb", "word0(a) word2(b) end3g"}, src{"a\n b", "word0(a) line1g word3(b) end4g"}, src{"a \nb", "word0(a) line2 word3g(b) end4g"},
	)
}

func TestQuotes(t *testing.T) {
	isOne(t, src{"''", "dead ()"}, src{"'a'", "dead (a)"}, src{"''''", "dead (')"}, src{"''''''", "dead ('')"}, src{"'a''b'", "dead (a'b)"}, src{"'''a'", "dead ('a)"}, src{"'a'''", "dead (a')"}, src{"'a''''b'", "dead (a''b)"},
		src{`'\'`, `dead (\)`}, src{`'"$x${$(a#;&` + "`" + `'`, `dead ("$x${$(a#;&` + "`" + `)`}, src{"'a\n\tb'", "dead (a\n\tb)"}, src{"'\x00'", "dead (\x00)"}, src{"' '", "dead ( )"})
	lexes(t,
		src{"'a' 'b'", "dead0(a) dead4(b) end7g"}, src{"'' ''", "dead0() dead3() end5g"}, src{"'a'b'c'", "dead0(a) word3g(b) dead4g(c) end7g"}, src{"''''^''", "dead0(') ^4g dead5g() end7g"}, src{"'a'$x", "dead0(a) var3g(x) end5g"},
	)
}

func TestQuotesThatDoNotEnd(t *testing.T) {
	refuses(t, api.ErrQuote, 0, "'", "'a", "'''", "'a''", "'''''", "'''a", "'a''b", `'\`, "'\n", "'a b;&|", "'$", "'`", "'"+strings.Repeat("a", api.MaxSource-1), "'"+strings.Repeat("''", api.MaxSource/2-1))
	refuses(t, api.ErrQuote, 1, "a'", "a'b''", ";'", " '''", `\'`, "='&", "('a)")
	refuses(t, api.ErrQuote, 2, "$x'", "a '", "&&'", "`{'", "$1''' &")
	refuses(t, api.ErrQuote, 4, "'a' '", "'' ^'", "$#x ''' $", "a''b'", "''^ '''")
}

// fullName is a name of MaxName bytes.
var fullName = "_" + strings.Repeat("aZ9_", api.MaxName)[:api.MaxName-1]

func TestVariables(t *testing.T) {
	for kind, sign := range map[string]string{"var": "$", "count": "$#", "flat": `$"`} {
		for _, name := range []string{"x", "_", "xyz", "x1", "Z_9a", "if", "*", fullName} {
			n := len(sign + name)
			isOne(t, src{sign + name, kind + " (" + name + ")"})
			lexes(t,
				src{sign + name + "-", fmt.Sprintf("%s0(%s) word%dg(-) end%dg", kind, name, n, n+1)},
				src{sign + name + "$y", fmt.Sprintf("%s0(%s) var%dg(y) end%dg", kind, name, n, n+2)},
				src{sign + name + " a", fmt.Sprintf("%s0(%s) word%d(a) end%dg", kind, name, n+1, n+2)},
				src{sign + name + `"`, fmt.Sprintf("%s0(%s) word%dg(\") end%dg", kind, name, n, n+1)},
				src{"a" + sign + name, fmt.Sprintf("word0(a) %s1g(%s) end%dg", kind, name, n+1)},
				src{sign + name + "(1)", fmt.Sprintf("%s0(%s) (%dg word%dg(1) )%dg end%dg", kind, name, n, n+1, n+2, n+3)},
			)
		}
		lexes(t, src{sign + "**", fmt.Sprintf("%s0(*) word%dg(*) end%dg", kind, len(sign)+1, len(sign)+2)}, src{sign + "*a", fmt.Sprintf("%s0(*) word%dg(a) end%dg", kind, len(sign)+1, len(sign)+2)})
	}
}

func TestWrongNames(t *testing.T) {
	for _, sign := range []string{"$", "$#", `$"`} {
		for _, behind := range []string{"", " ", " x", "\tx", "\n", "0", "01", "0x", "-", "$", "$x", "{x}", "(x)", "(", "'x'", "'", "`{a}", "`", "&", "&&", ";", "=", "^x", "!", "?", "@", "[x]", `\x`, "é", "\x00", fullName + "x", fullName + "0", fullName + "_ b", strings.Repeat("x", api.MaxSource-2)} {
			refuses(t, api.ErrName, 0, sign+behind)
			if len(behind) < api.MaxSource-9 {
				refuses(t, api.ErrName, 2, "a "+sign+behind, "$x"+sign+behind, "$1"+sign+behind, "''"+sign+behind, "&&"+sign+behind)
			}
		}
	}
	refuses(t, api.ErrName, 0, "$#1", `$"1`, "$##", "$##x", `$""`, `$""x`, `$"#x`, `$#"x`, "$#9", "$# '", "$ &", "$$", "$$1")
}

func TestArguments(t *testing.T) {
	for n := 1; n <= 9; n++ {
		isOne(t, src{fmt.Sprint("$", n), fmt.Sprint("num #", n)})
		lexes(t, src{fmt.Sprintf("$%d%d", n, n), fmt.Sprintf("num0#%d word2g(%d) end3g", n, n)})
	}
	lexes(t, src{"$10", "num0#1 word2g(0) end3g"}, src{"$1a", "num0#1 word2g(a) end3g"}, src{"a$9$8 $7", "word0(a) num1g#9 num3g#8 num6#7 end8g"}, src{"$2=", "num0#2 =2g end3g"})
	refuses(t, api.ErrName, 0, "$0", "$00", "$/", "$:")
}
