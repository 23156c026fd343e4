package cscan

import (
	"fmt"
	"strings"
	"testing"

	"patois/api"
)

func TestBackslashes(t *testing.T) {
	isWord(t,
		src{`\n`, "text0(\n)"}, src{`\t`, "text0(\t)"}, src{`\N\T`, "text0(NT)"}, src{`\nn\tt`, "text0(\nn\tt)"}, src{`\\n`, `text0(\n)`}, src{`\\\n`, "text0(\\\n)"},
		src{`\a`, "text0(a)"}, src{`\r\0\x`, "text0(r0x)"}, src{`\\`, `text0(\)`}, src{`\ `, "text0( )"}, src{`\;`, "text0(;)"}, src{"\\\n", "text0(\n)"}, src{"\\\t", "text0(\t)"}, src{"\\\x00", "text0(\x00)"},
		src{`\$x`, "text0($x)"}, src{`\$1\$*`, "text0($1$*)"}, src{`\[a\]`, "text0([a])"}, src{`\[a]`, "text0([a])"}, src{`\$[a]`, "text0($) sub2(a)"}, src{`\\$x`, `text0(\) var2(x)`}, src{`\\[a]`, `text0(\) sub2(a)`},
		src{`\é`, "text0(é)"}, src{`a\bc`, "text0(abc)"}, src{`$x\y`, "var0(x) text2(y)"}, src{`$x\$y`, "var0(x) text2($y)"}, src{`$\x`, "text0($x)"}, src{`$\*`, "text0($*)"},
		src{`\`, `text0(\)`}, src{`a\`, `text0(a\)`}, src{`\\\`, `text0(\\)`}, src{`$x\`, `var0(x) text2(\)`}, src{`[a]\`, `sub0(a) text3(\)`},
	)
	scans(t, src{`a \`, `cmd0 word0[text0(a)] word2[text2(\)]`}, src{`;\`, `cmd1 word1[text1(\)]`})
}

func TestNames(t *testing.T) {
	isWord(t,
		src{"$x", "var0(x)"}, src{"$x1_Y", "var0(x1_Y)"}, src{"$_", "var0(_)"}, src{"$Z", "var0(Z)"}, src{"$x-y", "var0(x) text2(-y)"}, src{"$x$y", "var0(x) var2(y)"}, src{"a$x", "text0(a) var1(x)"},
		src{"$x.$y", "var0(x) text2(.) var3(y)"}, src{"$$x", "text0($) var1(x)"}, src{"$x$", "var0(x) text2($)"}, src{"$xé", "var0(x) text2(é)"}, src{"$x[y]", "var0(x) sub2(y)"}, src{"[y]$x", "sub0(y) var3(x)"},
		src{"$" + fullName, "var0(" + fullName + ")"}, src{"$" + fullName + "-", "var0(" + fullName + ") text21(-)"}, src{"$" + fullName + "$x", "var0(" + fullName + ") var21(x)"},
	)
	scans(t, src{"$x $y;$z", "cmd0 word0[var0(x)] word3[var3(y)] cmd6 word6[var6(z)]"})
}

func TestNamesThatAreTooLong(t *testing.T) {
	refuses(t, api.ErrName, 0, "$"+fullName+"x", "$"+fullName+"0", "$"+fullName+"_ {", "$"+fullName+"x[", "$"+strings.Repeat("a", api.MaxSource-1))
	refuses(t, api.ErrName, 2, "$x$"+fullName+"x", "a $"+fullName+"x", "$$$"+fullName+"x", "[]$"+fullName+"x", `\a$`+fullName+"x", "\n\n$"+fullName+"x\n{")
	isWord(t, src{`\$` + fullName + "x", "text0($" + fullName + "x)"}, src{"[$" + fullName + "x]", "sub0($" + fullName + "x)"}, src{"$1" + fullName + "x", "num0#1() text2(" + fullName + "x)"})
}

func TestArguments(t *testing.T) {
	for n := 1; n <= 9; n++ {
		isWord(t, src{fmt.Sprint("$", n), fmt.Sprintf("num0#%d()", n)}, src{fmt.Sprintf("$%d%d", n, n), fmt.Sprintf("num0#%d() text2(%d)", n, n)}, src{fmt.Sprintf(`"$%d"`, n), fmt.Sprintf("num1#%d()", n)})
	}
	isWord(t,
		src{"$*", "var0(*)"}, src{"$**", "var0(*) text2(*)"}, src{"a$*b", "text0(a) var1(*) text3(b)"}, src{"$*$*", "var0(*) var2(*)"}, src{"$*1", "var0(*) text2(1)"},
		src{"$1a", "num0#1() text2(a)"}, src{"$10", "num0#1() text2(0)"}, src{"$1$2", "num0#1() num2#2()"}, src{"a$9", "text0(a) num1#9()"}, src{"$1[a]", "num0#1() sub2(a)"},
	)
}

func TestDollarsThatAreBytes(t *testing.T) {
	isWord(t,
		src{"$", "text0($)"}, src{"$$", "text0($$)"}, src{"a$", "text0(a$)"}, src{"$0", "text0($0)"}, src{"$0x", "text0($0x)"}, src{"a$%b", "text0(a$%b)"}, src{"$?$!$-$@$#", "text0($?$!$-$@$#)"},
		src{"${x}", "text0(${x})"}, src{`$"x"`, `text0($"x")`}, src{"$]", "text0($])"}, src{"$é", "text0($é)"}, src{"$\x00", "text0($\x00)"}, src{"$(a)", "text0($(a))"},
		src{"$$1", "text0($) num1#1()"}, src{"$[a]", "text0($) sub1(a)"}, src{`$\`, `text0($\)`},
	)
	scans(t, src{"$ x", "cmd0 word0[text0($)] word2[text2(x)]"}, src{"$;$\n$\t", "cmd0 word0[text0($)] cmd2 word2[text2($)] cmd4 word4[text4($)]"}, src{"$ 1", "cmd0 word0[text0($)] word2[text2(1)]"})
}

func TestBrackets(t *testing.T) {
	isWord(t,
		src{"[]", "sub0()"}, src{"[a]", "sub0(a)"}, src{"[ a b\n;c\t]", "sub0( a b\n;c\t)"}, src{"a[b]c", "text0(a) sub1(b) text4(c)"}, src{"[a][b]", "sub0(a) sub3(b)"}, src{"[a]]", "sub0(a) text3(])"},
		src{"[[]]", "sub0([])"}, src{"[[a][b]c]", "sub0([a][b]c)"}, src{"[[[[]]]]", "sub0([[[]]])"}, src{"[a [b [c] d] e]f", "sub0(a [b [c] d] e) text15(f)"},
		src{`[\]]`, `sub0(\])`}, src{`[\[]`, `sub0(\[)`}, src{`[\\]`, `sub0(\\)`}, src{`[\\\]]`, `sub0(\\\])`}, src{`[\{]`, `sub0(\{)`}, src{`[\n]`, `sub0(\n)`}, src{`[\}]`, `sub0(\})`},
		src{"[{]}]", "sub0({]})"}, src{"[{[}]", "sub0({[})"}, src{"[{}]", "sub0({})"}, src{"[}]", "sub0(})"}, src{"[}{]}]", "sub0(}{]})"}, src{"[{{]}]}]", "sub0({{]}]})"}, src{`[{\}]}]`, `sub0({\}]})`}, src{`[{\{]}]`, `sub0({\{]})`}, src{`[{\\}]`, `sub0({\\})`},
		src{"[{}{]}]", "sub0({}{]})"}, src{"[{a}{[}{]}]", "sub0({a}{[}{]})"}, src{"[a{]}[{]}{]}]{]}]", "sub0(a{]}[{]}{]}]{]})"}, src{"[{a}]]", "sub0({a}) text5(])"},
		src{`["]`, `sub0(")`}, src{`["]"`, `sub0(") text3(")`}, src{"[#]", "sub0(#)"}, src{"[$]", "sub0($)"}, src{"[$x $1]", "sub0($x $1)"}, src{"[\x00\xff]", "sub0(\x00\xff)"}, src{"['{']'}]", "sub0('{']'})"},
	)
	scans(t, src{"[a b] [c]", "cmd0 word0[sub0(a b)] word6[sub6(c)]"}, src{"[a] ]", "cmd0 word0[sub0(a)] word4[text4(])]"}, src{"[a;b];c", "cmd0 word0[sub0(a;b)] cmd6 word6[text6(c)]"})
}

// All of these are at the first `[`: what is in the text is only passed over.
func TestBracketsThatDoNotEnd(t *testing.T) {
	refuses(t, api.ErrParen, 0, "[", "[a", "[a b;\n", "[[", "[[]", "[[a]", "[[][]", `[\`, `[\]`, `[a\]`, `[\\\]`, "[{", "[{]", "[{{}]", "[{a}{]", `[{\}]`, `[{\`, "[{]}", `["`, "[#", "[a {b", "[$"+fullName+"x", "["+strings.Repeat("a", api.MaxSource-1), strings.Repeat("[", api.MaxSource), "["+strings.Repeat("{", api.MaxSource-1))
	refuses(t, api.ErrParen, 2, "a [", "$x[", "[][", `\a[`, "$$[", "]][", "\n\n[{", "a{[}", `a"["`)
	refuses(t, api.ErrParen, 4, "{a} [", `"a" [`, "[a] [{", "[a]b[")
}

// nested is that many of these within one another.
func nested(open, shut string, n int) string {
	return strings.Repeat(open, n) + strings.Repeat(shut, n)
}

// A bracket or a brace may hold as much within itself as a source has room for.
func TestDeepNesting(t *testing.T) {
	for _, x := range [][2]string{{"[", "]"}, {"[a ", "{]} ]"}, {`[\[`, `{[}{]}\]]`}} {
		within := nested(x[0], x[1], (api.MaxSource-2)/len(x[0]+x[1]))
		isWord(t, src{"[" + within + "]", "sub0(" + within + ")"})
		refuses(t, api.ErrParen, 0, "["+within, "["+within[:len(within)-1])
	}
	for _, x := range [][2]string{{"{", "}"}, {"{[", "]}"}, {`{\}`, `"\{}`}} {
		within := nested(x[0], x[1], (api.MaxSource-6)/len(x[0]+x[1]))
		isBraced(t, within)
		isWord(t, src{"[{" + within + "}]", "sub0({" + within + "})"})
		refuses(t, api.ErrBrace, 0, "{"+within, "{"+within[:len(within)-1])
	}
}

// The first error from the left is told, whatever stands behind it.
func TestTheFirstError(t *testing.T) {
	refuses(t, api.ErrToken, 3, "{a}b {", `{a}b "`, "{a}b [", "{a}b $"+fullName+"x")
	refuses(t, api.ErrParen, 0, `[ "`, "[ {", "[ $"+fullName+"x")
	refuses(t, api.ErrName, 1, "a$"+fullName+"x {", "a$"+fullName+"x [", "a$"+fullName+"x{a}b", "\"$"+fullName+"x {a}b")
	refuses(t, api.ErrQuote, 0, `" {a}b`, `" {`, "\"\n{a}b;{")
	refuses(t, api.ErrBrace, 0, `{ "`, "{ [", "{ $"+fullName+"x")
}
