package alex

import (
	"fmt"
	"strings"
	"testing"

	"patois/api"
)

// fullName is a name of MaxName bytes.
var fullName = "_" + strings.Repeat("aZ9_", api.MaxName)[:api.MaxName-1]

// P10.2

func TestWordsGoUpToTheirEnds(t *testing.T) {
	for _, end := range []string{" ", "\t", "\n", ";", "&&", "|", "(", ")", "<", ">"} {
		l := lexed(t, "a=*?[]{}!~%,.:@^-+/`"+end+"b")
		if s, is := Bare(l[0]); s != "a=*?[]{}!~%,.:@^-+/`" || !is || l[len(l)-2].At != len(s)+len(end) {
			t.Errorf("%q: %s", end, told(l))
		}
		isWord(t, src{`a\` + end[:1] + "b", "text0(a) dead1(" + end[:1] + ") text3(b)"},
			src{"a'" + end + "'b", fmt.Sprintf("text0(a) dead1(%s) text%d(b)", end, 3+len(end))},
			src{`a"` + end + `"b`, fmt.Sprintf("text0(a) dead1(%s) text%d(b)", end, 3+len(end))},
		)
	}
	isWord(t, src{"a\r\v\x00\xff", "text0(a\r\v\x00\xff)"}, src{"é\u00a0ü", "text0(é\u00a0ü)"})
}

func TestBackslashes(t *testing.T) {
	isWord(t,
		src{`\a`, "dead0(a)"}, src{`\a\b`, "dead0(a) dead2(b)"}, src{`\\`, `dead0(\)`}, src{`\\a`, `dead0(\) text2(a)`},
		src{`a\*b`, "text0(a) dead1(*) text3(b)"}, src{`\ `, "dead0( )"}, src{"\\\n", "dead0(\n)"}, src{"\\\x00", "dead0(\x00)"},
		src{`\'`, "dead0(')"}, src{`\"`, `dead0(")`}, src{`\$x`, "dead0($) text2(x)"}, src{`\$\(`, "dead0($) dead2(()"},
		src{`\é`, "dead0(\xc3) text2(\xa9)"},
		src{`\`, `dead0(\)`}, src{`a\`, `text0(a) dead1(\)`}, src{`\\\`, `dead0(\) dead2(\)`}, src{`$\`, `text0($) dead1(\)`},
	)
	lexes(t, src{`a \`, `word0[text0(a)] word2[dead2(\)] end3`}, src{`a\ b c`, "word0[text0(a) dead1( ) text3(b)] word5[text5(c)] end6"})
}

func TestSingleQuotes(t *testing.T) {
	isWord(t,
		src{"''", "dead0()"}, src{"'a'", "dead0(a)"}, src{"''''", "dead0() dead2()"}, src{"'a''b'", "dead0(a) dead3(b)"},
		src{"a''b", "text0(a) dead1() text3(b)"}, src{`'\'`, `dead0(\)`}, src{`'\'\'`, `dead0(\) dead3(')`},
		src{`'"$x${$(a#;&'`, `dead0("$x${$(a#;&)`}, src{"'a\n\tb'", "dead0(a\n\tb)"}, src{"'a'$x", "dead0(a) var3(x)"}, src{"'\x00'", "dead0(\x00)"},
	)
}

func TestSingleQuotesThatDoNotEnd(t *testing.T) {
	refuses(t, api.ErrQuote, 0, "'", "'a", `'\`, `'"`, "'\n", "'a b;&|", "'$(", "'"+strings.Repeat("a", api.MaxSource-1))
	refuses(t, api.ErrQuote, 2, "'''", "'''a", "a '", `\''`, "$x'", "a\n'", "$0'")
	refuses(t, api.ErrQuote, 3, "'a''", "'a''&", `"a"'`)
}

func TestDoubleQuotes(t *testing.T) {
	isWord(t,
		src{`""`, "dead0()"}, src{`"a"`, "dead0(a)"}, src{`""""`, "dead0() dead2()"}, src{`"a""b"`, "dead0(a) dead3(b)"},
		src{`a""b`, "text0(a) dead1() text3(b)"}, src{`"a b;&|()<>#'*c"`, "dead0(a b;&|()<>#'*c)"}, src{"\"a\n\x00\"", "dead0(a\n\x00)"},
		src{`"\$"`, "dead0($)"}, src{`"\""`, `dead0(")`}, src{`"\\"`, `dead0(\)`}, src{`"\\\\"`, `dead0(\\)`},
		src{`"\a"`, `dead0(\a)`}, src{`"\'"`, `dead0(\')`}, src{"\"\\\n\"", "dead0(\\\n)"}, src{"\"\\`\"", "dead0(\\`)"}, src{`"\ \("`, `dead0(\ \()`},
		src{`"a\$x\"b\\c\d"`, `dead0(a$x"b\c\d)`}, src{`"\$(a"`, "dead0($(a)"}, src{`"\${"`, "dead0(${)"}, src{`"\\$x"`, `dead0(\) var3q(x)`},
		src{`"$"`, "dead0($)"}, src{`"$$"`, "dead0($$)"}, src{`"a$ b"`, "dead0(a$ b)"}, src{`"$0$%"`, "dead0($0$%)"}, src{`"$\$"`, "dead0($$)"}, src{`"$'a'"`, "dead0($'a')"},
	)
}

// The empty part that a `"` begins with stays where a dollar stands next; what
// is dead behind a dollar is a part of its own only where there is some.
func TestDollarsInDoubleQuotes(t *testing.T) {
	isWord(t,
		src{`"$x"`, "dead0() var1q(x)"}, src{`"$x$y"`, "dead0() var1q(x) var3q(y)"}, src{`"$x-$y-"`, "dead0() var1q(x) dead3(-) var4q(y) dead6(-)"},
		src{`"a${x}b"`, "dead0(a) var2q(x) dead6(b)"}, src{`"$x\$y"`, "dead0() var1q(x) dead3($y)"}, src{`"$x\y"`, `dead0() var1q(x) dead3(\y)`},
		src{`"$*"`, "dead0() var1q(*)"}, src{`"$10"`, "dead0() num1q#1() dead3(0)"}, src{`"$#"`, "dead0() many1q()"}, src{`"$##"`, "dead0() many1q() dead3(#)"},
		src{`"$(a b)"`, "dead0() sub1q(a b)"}, src{`"$(a "b" c)"`, `dead0() sub1q(a "b" c)`}, src{`"$(")")"`, `dead0() sub1q(")")`}, src{`"$x$"`, "dead0() var1q(x) dead3($)"},
		src{`"$x"$x`, "dead0() var1q(x) var4(x)"}, src{`$x"$x"`, "var0(x) dead2() var3q(x)"}, src{`"$x""$y"`, "dead0() var1q(x) dead4() var5q(y)"},
		src{`"a""$x"`, "dead0(a) dead3() var4q(x)"}, src{`'a'"b"\c`, "dead0(a) dead3(b) dead6(c)"}, src{`"a"b"c"`, "dead0(a) text3(b) dead4(c)"},
	)
}

func TestDoubleQuotesThatDoNotEnd(t *testing.T) {
	refuses(t, api.ErrQuote, 0, `"`, `"a`, `"\`, `"a\`, `"\"`, `"\\\"`, `"'`, `"$`, `"$x`, `"$1`, `"$(a)`, `"${x}`, "\"\n", `"&`, `"$x\"`, `"`+strings.Repeat("a", api.MaxSource-1))
	refuses(t, api.ErrQuote, 2, `"""`, `"""a`, `a "`, `''"`, `\""`, `$x"`, `$#"`)
	refuses(t, api.ErrQuote, 3, `"a""`, `"a""&`, `'"'"`)
}

// What is wrong within quotes is met ahead of their end.
func TestWrongDollarsInDoubleQuotes(t *testing.T) {
	refuses(t, api.ErrParen, 1, `"$(`, `"$("`, `"$(a"`, `"$(a'"`, `"$("a)"`)
	refuses(t, api.ErrName, 1, `"${`, `"${"`, `"${x"`, `"${}"`, `"${x"}"`, `"${*}"`, `"$`+fullName+`x`, `"$`+fullName+`x"`, `"${`+fullName+`x}"`)
	refuses(t, api.ErrName, 3, `"$x${"`, `"\a${1}"`, `"\$${1}"`)
}

func TestNames(t *testing.T) {
	isWord(t,
		src{"$x", "var0(x)"}, src{"$x1_Y", "var0(x1_Y)"}, src{"$_", "var0(_)"}, src{"$Z", "var0(Z)"}, src{"$x-y", "var0(x) text2(-y)"},
		src{"$x$y", "var0(x) var2(y)"}, src{"a$x", "text0(a) var1(x)"}, src{"$x.$y", "var0(x) text2(.) var3(y)"}, src{"$$x", "text0($) var1(x)"}, src{"$x$", "var0(x) text2($)"},
		src{"$xé", "var0(x) text2(é)"}, src{"$" + fullName, "var0(" + fullName + ")"}, src{"$" + fullName + "-", "var0(" + fullName + ") text21(-)"},
		src{"${x}", "var0(x)"}, src{"${x}y", "var0(x) text4(y)"}, src{"${x}}", "var0(x) text4(})"}, src{"${x}${y}", "var0(x) var4(y)"}, src{"a${_9}", "text0(a) var1(_9)"},
		src{"${" + fullName + "}", "var0(" + fullName + ")"},
	)
}

func TestWrongNames(t *testing.T) {
	refuses(t, api.ErrName, 0, "$"+fullName+"x", "$"+fullName+"0", "$"+fullName+"_ b", "$"+strings.Repeat("a", api.MaxSource-1),
		"${", "${}", "${x", "${ x}", "${x }", "${1}", "${1a}", "${*}", "${#}", "${x-y}", "${$x}", "${${x}}", "${x\n}", "${x;y}", "${'x'}", "${\\x}", "${é}", "${(}", "${ }",
		"${"+fullName+"x}", "${"+strings.Repeat("x", api.MaxSource-3)+"}", "${x &", "${x '", "${x $(")
	refuses(t, api.ErrName, 2, "$$${", "a ${", "$x${}", "''${", `\a${`, "$1${x")
}

func TestArguments(t *testing.T) {
	for n := 1; n <= 9; n++ {
		isWord(t, src{fmt.Sprint("$", n), fmt.Sprintf("num0#%d()", n)}, src{fmt.Sprintf("$%d%d", n, n), fmt.Sprintf("num0#%d() text2(%d)", n, n)})
	}
	isWord(t,
		src{"$*", "var0(*)"}, src{"$**", "var0(*) text2(*)"}, src{"a$*b", "text0(a) var1(*) text3(b)"}, src{"$*$*", "var0(*) var2(*)"},
		src{"$1a", "num0#1() text2(a)"}, src{"$10", "num0#1() text2(0)"}, src{"$1$2", "num0#1() num2#2()"}, src{"a$9", "text0(a) num1#9()"},
		src{"$#", "many0()"}, src{"$#a", "many0() text2(a)"}, src{"a$#", "text0(a) many1()"}, src{"$#$#", "many0() many2()"},
	)
}

func TestDollarsThatAreBytes(t *testing.T) {
	isWord(t,
		src{"$", "text0($)"}, src{"$$", "text0($$)"}, src{"a$", "text0(a$)"}, src{"$0", "text0($0)"}, src{"a$%b", "text0(a$%b)"}, src{"$?$!$-$@", "text0($?$!$-$@)"},
		src{"$=a", "text0($=a)"}, src{"$é", "text0($é)"}, src{"$[a]$}", "text0($[a]$})"}, src{"$\x00", "text0($\x00)"}, src{"$$$1", "text0($$) num2#1()"},
		src{"$'a'", "text0($) dead1(a)"}, src{`$"a"`, "text0($) dead1(a)"}, src{`$\a`, "text0($) dead1(a)"},
	)
	lexes(t, src{"$ x", "word0[text0($)] word2[text2(x)] end3"}, src{"$;$\n$)", "word0[text0($)] ;1 word2[text2($)] line3 word4[text4($)] )5 end6"}, src{"$<(", "word0[text0($)] <1 (2 end3"})
}

func TestCommands(t *testing.T) {
	isWord(t,
		src{"$()", "sub0()"}, src{"$(a)", "sub0(a)"}, src{"$( a b\n;c )", "sub0( a b\n;c )"}, src{"a$(b)c", "text0(a) sub1(b) text5(c)"}, src{"$(a)$(b)", "sub0(a) sub4(b)"},
		src{"$(())", "sub0(())"}, src{"$((a)(b)c)", "sub0((a)(b)c)"}, src{"$(((())))", "sub0(((())))"}, src{"$($(a))", "sub0($(a))"}, src{"$(a $(b $(c) d) e)f", "sub0(a $(b $(c) d) e) text18(f)"},
		src{`$(\))`, `sub0(\))`}, src{`$(\()`, `sub0(\()`}, src{`$(\\)`, `sub0(\\)`}, src{`$(\')`, `sub0(\')`}, src{`$(\")`, `sub0(\")`}, src{`$(\\\))`, `sub0(\\\))`},
		src{"$(')')", "sub0(')')"}, src{"$('(')", "sub0('(')"}, src{`$('\')`, `sub0('\')`}, src{`$('"')`, `sub0('"')`}, src{"$('')", "sub0('')"}, src{"$('a'b')')", "sub0('a'b')')"},
		src{`$(")")`, `sub0(")")`}, src{`$("(")`, `sub0("(")`}, src{`$("'")`, `sub0("'")`}, src{`$("\"")`, `sub0("\"")`}, src{`$("\\")`, `sub0("\\")`}, src{`$("\$(")`, `sub0("\$(")`},
		src{`$("$(a)")`, `sub0("$(a)")`}, src{`$("$(")")")`, `sub0("$(")")")`}, src{`$("$(')"')")`, `sub0("$(')"')")`}, src{`$("$(a (b) "$(c)")")d`, `sub0("$(a (b) "$(c)")") text20(d)`},
		src{`$("$")`, `sub0("$")`}, src{`$("$$(a)")`, `sub0("$$(a)")`}, src{`$("a(b")`, `sub0("a(b")`}, src{`$("$ (")`, `sub0("$ (")`}, src{`$("\a")`, `sub0("\a")`},
		src{"$(#)", "sub0(#)"}, src{"$(a & ${ >)", "sub0(a & ${ >)"}, src{"$(\x00)", "sub0(\x00)"}, src{"$(a # ' ')", "sub0(a # ' ')"},
	)
	lexes(t, src{"$(a) )", "word0[sub0(a)] )5 end6"}, src{"$(a))", "word0[sub0(a)] )4 end5"}, src{"( $(a))", "(0 word2[sub2(a)] )6 end7"})
}

// All of these are at the first `$`: what is in the text is only passed over.
func TestCommandsThatDoNotEnd(t *testing.T) {
	refuses(t, api.ErrParen, 0, "$(", "$(a", "$(a b;&", "$((", "$((a)", "$(()", "$($(a)", "$(a (b", `$(\`, `$(\)`, `$(a\)`, `$(\\\)`, "$('", "$('a)", "$(')''", "$(a ' b)", "$(# ')",
		`$("`, `$("a)`, `$("\"`, `$("\")`, `$("\`, `$("$(`, `$("$(a)`, `$("$(a)"`, `$("$(a")`, `$("$(a'")')`, `$("$("$(`, `$("$(\)")`, `$("$(a(b)")`, `$("$(")")`,
		"$("+strings.Repeat("(", api.MaxSource-2), "$("+strings.Repeat(`"$(`, (api.MaxSource-2)/3))
	refuses(t, api.ErrParen, 2, "a $(", "$x$(", "''$(", `""$(`, `\a$(`, "$$$(", "()$(", "$#$(a", "\n\n$(")
	refuses(t, api.ErrQuote, 4, "$(a)'", `$(a)"`)
}

// A command's text may hold as much within itself as a source has room for.
func TestCommandsInCommands(t *testing.T) {
	for _, x := range []struct{ open, shut string }{{"(", ")"}, {"$(", ")"}, {`"$(`, `)"`}, {`a "b$(c (d`, `) 'e)')\" "`}} {
		n := (api.MaxSource - 3) / len(x.open+x.shut)
		within := strings.Repeat(x.open, n) + strings.Repeat(x.shut, n)
		isWord(t, src{"$(" + within + ")", "sub0(" + within + ")"})
		refuses(t, api.ErrParen, 0, "$("+within, "$("+within[:len(within)-1]+")")
	}
}
