package cscan

import (
	"fmt"
	"strings"
	"testing"

	"patois/api"
)

// fullName is a name of MaxName bytes.
var fullName = "_" + strings.Repeat("aZ9_", api.MaxName)[:api.MaxName-1]

// isBraced checks that each of these, between braces, is one word.
func isBraced(t *testing.T, all ...string) {
	t.Helper()
	for _, s := range all {
		scans(t, src{"{" + s + "}", "cmd0 braced0[text1(" + s + ")]"},
			src{"a {" + s + "}\tb", fmt.Sprintf("cmd0 word0[text0(a)] braced2[text3(%s)] word%d[text%d(b)]", s, len(s)+5, len(s)+5)})
	}
}

// P14.2

func TestBracedWords(t *testing.T) {
	isBraced(t, "", "a", " ", "a b;c\nd\te", "{}", "{{}}", "{}{}", "a{b{c}d}e", "#", "#{}", `"`, `""`, "[", "]", "$x $", "$"+fullName+"x", "\x00\xff")
	isBraced(t, `\}`, `\{`, `\\`, `\\\}`, `\a\n`, "\\\n", `{\}}`, `{\{}`, `\\{\\}`, `"\""`, `"{"}`, `[{]}`, `'{}`)
	scans(t, src{"{a} {b};{c}", "cmd0 braced0[text1(a)] braced4[text5(b)] cmd8 braced8[text9(c)]"}, src{"{{a} b} {\n}", "cmd0 braced0[text1({a} b)] braced8[text9(\n)]"})
}

func TestBracesThatDoNotEnd(t *testing.T) {
	refuses(t, api.ErrBrace, 0, "{", "{a", "{a b;\n", "{{", "{{}", "{{a}", "{{}{}", `{\`, `{\}`, `{a\}`, `{\\\}`, `{{\}}`, `{"{"}`, "{[{]}", "{"+strings.Repeat("a", api.MaxSource-1), strings.Repeat("{", api.MaxSource))
	refuses(t, api.ErrBrace, 2, "a {", "a {b", "a\n{ \"", ";;{", "\n\n{[", "a;{\\", "a\t{$"+fullName+"x")
	refuses(t, api.ErrBrace, 4, "{a} {", `"a" {`, "[a] {", "$xy {")
}

func TestBehindBraces(t *testing.T) {
	const one = "cmd0 braced0[text1(a)]"
	scans(t, src{"{a}", one}, src{"{a} ", one}, src{"{a}\t", one}, src{"{a}\n", one}, src{"{a};", one}, src{"{a} }", one + " word4[text4(})]"}, src{"{a};b", one + " cmd4 word4[text4(b)]"})
	for i := range 256 {
		if c := string([]byte{byte(i)}); !strings.Contains(" \t\n;", c) {
			refuses(t, api.ErrToken, 3, "{a}"+c, "{a}"+c+" {", "{a}"+c+"}")
			refuses(t, api.ErrToken, 6, "{b} {}"+c, "{b}\n\"\""+c)
		}
	}
	refuses(t, api.ErrToken, 3, `{"}"}`, "{[}]}", `{"}"{`)
	refuses(t, api.ErrToken, 2, "{}}", "{}{}", "{}\\\n", `{}""`, "{}[", "{}#", "{}"+strings.Repeat("a", api.MaxSource-2))
}

func TestQuotedWords(t *testing.T) {
	isWord(t,
		src{`""`, "text0()"}, src{`"a"`, "text1(a)"}, src{`" "`, "text1( )"}, src{"\"a b;c\n\td\"", "text1(a b;c\n\td)"}, src{`"#a"`, "text1(#a)"},
		src{`"{"`, "text1({)"}, src{`"}"`, "text1(})"}, src{`"]"`, "text1(])"}, src{`"{a} b}"`, "text1({a} b})"}, src{`"'"`, "text1(')"}, src{"\"\x00\xff\"", "text1(\x00\xff)"},
		src{`"\""`, `text1(")`}, src{`"\\"`, `text1(\)`}, src{`"\\\""`, `text1(\")`}, src{`"a\"b\"c"`, `text1(a"b"c)`}, src{`"\n\t"`, "text1(\n\t)"}, src{`"\a\$x\["`, "text1(a$x[)"},
		src{`"$x"`, "var1(x)"}, src{`"$x$y"`, "var1(x) var3(y)"}, src{`"$x $y"`, "var1(x) text3( ) var4(y)"}, src{`"a$x;"`, "text1(a) var2(x) text4(;)"}, src{`"$1$*$0$"`, "num1#1() var3(*) text5($0$)"},
		src{`"[a]"`, "sub1(a)"}, src{`"[]"`, "sub1()"}, src{`"["]"`, `sub1(")`}, src{`"[a "b" c]"`, `sub1(a "b" c)`}, src{`"x[put "[y]"]z"`, `text1(x) sub2(put "[y]") text13(z)`}, src{`"[{"]}"]"`, `sub1({"]}")`},
	)
	scans(t, src{`"a" "b";"" ""`, "cmd0 word0[text1(a)] word4[text5(b)] cmd8 word8[text8()] word11[text11()]"}, src{`a ""`, "cmd0 word0[text0(a)] word2[text2()]"})
}

func TestQuotesThatDoNotEnd(t *testing.T) {
	refuses(t, api.ErrQuote, 0, `"`, `"a`, "\"a b;\n", `"\`, `"a\`, `"\"`, `"a\"`, `"\\\"`, `"$x`, `"$`, `"[a]`, `"["]`, `"{`, `"[a"]b`, `"`+strings.Repeat("a", api.MaxSource-1))
	refuses(t, api.ErrQuote, 2, `a "`, "a\n\"b", `;;"`, `a "\"`)
	refuses(t, api.ErrQuote, 4, `"a" "`, `{a} "`, `[a] "{`)
}

// What is wrong within quotes is met ahead of their end.
func TestWrongPartsInQuotes(t *testing.T) {
	refuses(t, api.ErrParen, 1, `"[`, `"["`, `"[a"`, `"[{]"`, `"[\]"`, `"[[]"`, `"[$`+fullName+`x`)
	refuses(t, api.ErrName, 1, `"$`+fullName+"x", `"$`+fullName+`x"`, `"$`+fullName+`0"a`, `"$`+fullName+"x[")
	refuses(t, api.ErrName, 3, `"$x$`+fullName+`x"`, `"\a$`+fullName+`x"`, `"[]$`+fullName+`x[`)
	refuses(t, api.ErrParen, 5, `"$x\$[`, `"[a] [`, `"\"{}["`)
}

func TestBehindQuotes(t *testing.T) {
	const one = "cmd0 word0[text1(a)]"
	scans(t, src{`"a"`, one}, src{`"a" `, one}, src{"\"a\"\t", one}, src{"\"a\"\n", one}, src{`"a";`, one}, src{`"a" }`, one + " word4[text4(})]"}, src{`"a";b`, one + " cmd4 word4[text4(b)]"})
	for i := range 256 {
		if c := string([]byte{byte(i)}); !strings.Contains(" \t\n;", c) {
			refuses(t, api.ErrToken, 3, `"a"`+c, `"a"`+c+" {", `"a"`+c+`"`)
			refuses(t, api.ErrToken, 4, `"$x"`+c, `"[]"`+c, `"\""`+c)
		}
	}
	refuses(t, api.ErrToken, 2, `"""`, `""""`, `""{}`, `""[`, `""$x`, `""#`, `""\`)
}

func TestBareWords(t *testing.T) {
	isWord(t,
		src{"a", "text0(a)"}, src{"a{b}", "text0(a{b})"}, src{"a{", "text0(a{)"}, src{"}", "text0(})"}, src{"}{", "text0(}{)"}, src{"]", "text0(])"}, src{"]a]", "text0(]a])"},
		src{`a"`, `text0(a")`}, src{`a"b"`, `text0(a"b")`}, src{"'a'", "text0('a')"}, src{"a=*?(b)<>|&!", "text0(a=*?(b)<>|&!)"}, src{"é", "text0(é)"}, src{"$x{", "var0(x) text2({)"}, src{`$x"`, `var0(x) text2(")`},
		src{`\{`, "text0({)"}, src{`\"a`, `text0("a)`}, src{`[a]{b}`, "sub0(a) text3({b})"}, src{`[a]"b"`, `sub0(a) text3("b")`},
	)
	scans(t,
		src{"a{b c}", "cmd0 word0[text0(a{b)] word4[text4(c})]"}, src{`a"b c"`, `cmd0 word0[text0(a"b)] word4[text4(c")]`}, src{"a{;}", "cmd0 word0[text0(a{)] cmd3 word3[text3(})]"}, src{"\\{a b}", "cmd0 word0[text0({a)] word4[text4(b})]"},
		src{`a\ b c`, "cmd0 word0[text0(a b)] word5[text5(c)]"}, src{`a\;b`, "cmd0 word0[text0(a;b)]"}, src{"a\\\nb\nc", "cmd0 word0[text0(a\nb)] cmd5 word5[text5(c)]"}, src{"\\ \\\t", "cmd0 word0[text0( \t)]"},
	)
}

// The places are of the whole source, wherever a word stands.
func TestPlaces(t *testing.T) {
	scans(t, src{"\n  {a}\t\"b$x\"; c[d]$1\\n\\n$*", "cmd3 braced3[text4(a)] word7[text8(b) var9(x)] cmd14 word14[text14(c) sub15(d) num18#1() text20(\n\n) var24(*)]"})
}
