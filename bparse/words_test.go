package bparse

import (
	"slices"
	"strings"
	"testing"

	"patois/api"
	"patois/core"
)

// read is a word of a source, and what is told of it, as a word and as the
// live tree of a pattern.
type read struct{ s, plain, live string }

// reads checks words, each where a word is wanted and where a pattern is.
func reads(t *testing.T, words ...read) {
	t.Helper()
	for _, x := range words {
		parses(t,
			src{"a " + x.s, "call('a' " + x.plain + ")"}, src{"a (" + x.s + ") b", "call('a' cat(" + x.plain + ") 'b')"}, src{"x=" + x.s + ";b", "seq(set:x(" + x.plain + ") call('b'))"}, src{"a >" + x.s + " b", "redir2(" + x.plain + " call('a' 'b'))"}, src{"a <<<" + x.s, "here(" + x.plain + " call('a'))"},
			src{"for(i in " + x.s + ") a", "for:i(" + x.plain + " call('a'))"}, src{"for(i in b " + x.s + ") a", "for:i(cat('b' " + x.plain + ") call('a'))"}, src{"switch(" + x.s + "){}", "case(flat(" + x.plain + "))"},
			src{"switch(a){case " + x.s + ";b}", "case(flat('a') " + x.live + " call('b'))"}, src{"switch(a){case b " + x.s + " c\n}", "case(flat('a') cat(~b~ " + x.live + " ~c~) nop())"},
		)
	}
}

func TestWordsOfText(t *testing.T) {
	reads(t,
		read{"a", "'a'", "~a~"}, read{"''", "''", "~~"}, read{"'a b'", "'a b'", `~a\ b~`}, read{"'it''s'", "'it's'", "~it's~"}, read{"'\t\n'", "'\t\n'", "~\\\t\\\n~"}, read{"''''", "'''", "~'~"}, read{"'$x;{}()'", "'$x;{}()'", "~$x;{}()~"},
		read{"a'b'", "'ab'", "~ab~"}, read{"'a'b", "'ab'", "~ab~"}, read{"a^b", "'ab'", "~ab~"}, read{"a ^ b", "'ab'", "~ab~"}, read{"a^ b", "'ab'", "~ab~"}, read{"a ^b", "'ab'", "~ab~"}, read{"'a'^'b'", "'ab'", "~ab~"}, read{"a^b'c'^d", "'abcd'", "~abcd~"}, read{"''^''", "''", "~~"}, read{"''a''^''", "'a'", "~a~"},
		read{"\xff\x01", "'\xff\x01'", "~\xff\x01~"}, read{`"a"`, `'"a"'`, `~"a"~`}, read{"]", "']'", "~]~"}, read{"']'", "']'", `~\]~`},
	)
}

// One word that is not quoted and has a pattern byte is a Glob; nothing else is.
func TestWordsOfPatterns(t *testing.T) {
	reads(t,
		read{"*", "glob(~*~)", "~*~"}, read{"a?b", "glob(~a?b~)", "~a?b~"}, read{"[a]", "glob(~[a]~)", "~[a]~"}, read{"[]", "'[]'", "~[]~"}, read{"[a", "'[a'", "~[a~"}, read{"[]]", "glob(~[]]~)", "~[]]~"}, read{"a]", "'a]'", "~a]~"}, read{"[b-c]*", "glob(~[b-c]*~)", "~[b-c]*~"},
		read{"'*'", "'*'", `~\*~`}, read{"'a?[b]'", "'a?[b]'", `~a\?\[b\]~`}, read{"*^b", "'*b'", "~*b~"}, read{"*'b'", "'*b'", "~*b~"}, read{"*''", "'*'", "~*~"}, read{"''*", "'*'", "~*~"}, read{"*^*", "'**'", "~**~"}, read{"*'*'", "'**'", `~*\*~`}, read{"[^a]", "'[a]'", "~[a]~"}, read{"['a'b]", "'[ab]'", "~[ab]~"},
		read{"*$x", "join('*' $x)", "join(~*~ esc($x))"}, read{"$x^?", "join($x '?')", "join(esc($x) ~?~)"}, read{"(*)", "cat(glob(~*~))", "esc(cat(glob(~*~)))"}, read{"(*)^a", "join(cat(glob(~*~)) 'a')", "join(esc(cat(glob(~*~))) ~a~)"}, read{"(*^a '*' b?)", "cat('*a' '*' glob(~b?~))", "esc(cat('*a' '*' glob(~b?~)))"},
	)
}

// A backslash is a byte of a word as it is; in live text it takes life, and one
// that would take none gets another one.
func TestWordsOfBackslashes(t *testing.T) {
	reads(t,
		read{`\`, `'\'`, `~\\~`}, read{`\\`, `'\\'`, `~\\~`}, read{`\\\`, `'\\\'`, `~\\\\~`}, read{`a\b`, `'a\b'`, `~a\b~`}, read{`a\`, `'a\'`, `~a\\~`}, read{`\*`, `'\*'`, `~\*~`}, read{`\*\`, `'\*\'`, `~\*\\~`}, read{`\\*`, `glob(~\\*~)`, `~\\*~`}, read{`*\`, `glob(~*\\~)`, `~*\\~`}, read{`?\\`, `glob(~?\\~)`, `~?\\~`}, read{`[a\`, `'[a\'`, `~[a\\~`}, read{`\[a]`, `'\[a]'`, `~\[a]~`}, read{`[a\]`, `'[a\]'`, `~[a\]~`}, read{`[a]\`, `glob(~[a]\\~)`, `~[a]\\~`},
		read{`'\'`, `'\'`, `~\\~`}, read{`'\*'`, `'\*'`, `~\\\*~`}, read{`a\^b`, `'a\b'`, `~a\\b~`}, read{`a\^*`, `'a\*'`, `~a\\*~`}, read{`a\'*'`, `'a\*'`, `~a\\\*~`}, read{`'a\'*`, `'a\*'`, `~a\\*~`}, read{`\^\`, `'\\'`, `~\\\\~`}, read{`\$x`, `join('\' $x)`, `join(~\\~ esc($x))`}, read{`$x^\`, `join($x '\')`, `join(esc($x) ~\\~)`}, read{`a\$x'b\'`, `join('a\' $x 'b\')`, `join(~a\\~ esc($x) ~b\\~)`},
	)
}

func TestWordsOfDollars(t *testing.T) {
	reads(t,
		read{"$x", "$x", "esc($x)"}, read{"$*", "$*", "esc($*)"}, read{"$#x", "count($x)", "esc(count($x))"}, read{"$#*", "count($*)", "esc(count($*))"}, read{"$\"x", "flat($x)", "esc(flat($x))"}, read{"$\"*", "flat($*)", "esc(flat($*))"}, read{"$1", "pick1($*)", "esc(pick1($*))"}, read{"$9", "pick9($*)", "esc(pick9($*))"}, read{"$if", "$if", "esc($if)"}, read{"$else", "$else", "esc($else)"},
		read{"$x$y", "join($x $y)", "join(esc($x) esc($y))"}, read{"$x^$y", "join($x $y)", "join(esc($x) esc($y))"}, read{"$x ^ $y", "join($x $y)", "join(esc($x) esc($y))"}, read{"$12", "join(pick1($*) '2')", "join(esc(pick1($*)) ~2~)"}, read{"$1$#x$\"y$*", "join(pick1($*) count($x) flat($y) $*)", "join(esc(pick1($*)) esc(count($x)) esc(flat($y)) esc($*))"},
		read{"a$x", "join('a' $x)", "join(~a~ esc($x))"}, read{"$x.c", "join($x '.c')", "join(esc($x) ~.c~)"}, read{"a'b'$x^c^'d'", "join('ab' $x 'cd')", "join(~ab~ esc($x) ~cd~)"}, read{"''$x", "join('' $x)", "join(~~ esc($x))"}, read{"$x''", "join($x '')", "join(esc($x) ~~)"}, read{"$x^''^$y", "join($x '' $y)", "join(esc($x) ~~ esc($y))"}, read{"''^''$x^''''a", "join('' $x ''a')", "join(~~ esc($x) ~'a~)"},
	)
}

func TestWordsOfBrackets(t *testing.T) {
	reads(t,
		read{"()", "cat()", "esc(cat())"}, read{"(a)", "cat('a')", "esc(cat('a'))"}, read{"( a b )", "cat('a' 'b')", "esc(cat('a' 'b'))"}, read{"((a)())", "cat(join(cat('a') cat()))", "esc(cat(join(cat('a') cat())))"}, read{"((a) ())", "cat(cat('a') cat())", "esc(cat(cat('a') cat()))"}, read{"(if in else case)", "cat('if' 'in' 'else' 'case')", "esc(cat('if' 'in' 'else' 'case'))"},
		read{"a(b)", "join('a' cat('b'))", "join(~a~ esc(cat('b')))"}, read{"(a)b", "join(cat('a') 'b')", "join(esc(cat('a')) ~b~)"}, read{"(a b)^(c d)", "join(cat('a' 'b') cat('c' 'd'))", "join(esc(cat('a' 'b')) esc(cat('c' 'd')))"}, read{"$x(a $y)", "join($x cat('a' $y))", "join(esc($x) esc(cat('a' $y)))"}, read{"(a^b 'c'$x)", "cat('ab' join('c' $x))", "esc(cat('ab' join('c' $x)))"},
	)
}

func TestWordsOfCommands(t *testing.T) {
	reads(t,
		read{"`{}", "sub(nop())", "esc(sub(nop()))"}, read{"`{a}", "sub(call('a'))", "esc(sub(call('a')))"}, read{"`{\na;b\n}", "sub(seq(call('a') call('b')))", "esc(sub(seq(call('a') call('b'))))"}, read{"a`{b}c", "join('a' sub(call('b')) 'c')", "join(~a~ esc(sub(call('b'))) ~c~)"}, read{"`{a}`{b}", "join(sub(call('a')) sub(call('b')))", "join(esc(sub(call('a'))) esc(sub(call('b'))))"}, read{"`{a `{b}}", "sub(call('a' sub(call('b'))))", "esc(sub(call('a' sub(call('b')))))"},
		read{"`{{a}}", "sub(call('a'))", "esc(sub(call('a')))"}, read{"(`{a} b)", "cat(sub(call('a')) 'b')", "esc(cat(sub(call('a')) 'b'))"}, read{"`{a *}^*", "join(sub(call('a' glob(~*~))) '*')", "join(esc(sub(call('a' glob(~*~)))) ~*~)"}, read{"`{switch(a){case '*';}}", `sub(case(flat('a') ~\*~ nop()))`, `esc(sub(case(flat('a') ~\*~ nop())))`}, read{"`{if(a) b else c}", "sub(if(call('a') call('b') call('c')))", "esc(sub(if(call('a') call('b') call('c'))))"},
	)
	refuses(t, api.ErrForm, refused{"a `{b)", 5}, refused{"a `{else}", 4}, refused{"a `{b; case}", 7}, refused{"a `{&&}", 4}, refused{"a `{b} }", 7}, refused{"(`{a)}", 4})
}

// What stands right behind a word goes on it just if an item begins so; a caret
// goes on with whatever item there is.
func TestWhatGoesOnAWord(t *testing.T) {
	parses(t,
		src{"a b", "call('a' 'b')"}, src{"a 'b' c", "call('a' 'b' 'c')"}, src{"a'b'c", "call('abc')"}, src{"a $x $y", "call('a' $x $y)"}, src{"a (b) (c)", "call('a' cat('b') cat('c'))"}, src{"a (b)(c)", "call('a' join(cat('b') cat('c')))"}, src{"a `{b} `{c}", "call('a' sub(call('b')) sub(call('c')))"}, src{"a\t'b'", "call('a' 'b')"},
		src{"a>b", "redir2('b' call('a'))"}, src{"a|b", "pipe(call('a') call('b'))"}, src{"a;b", "seq(call('a') call('b'))"}, src{"a&&b", "and(call('a') call('b'))"}, src{"a=b", "set:a('b')"}, src{"a=b'c'd", "set:a('bcd')"}, src{"{a}", "call('a')"}, src{"a#b\n'c'", "seq(call('a') call('c'))"}, src{"if(a)'b'c", "if(call('a') call('bc') nop())"}, src{"for(i in a)$b", "for:i('a' call($b))"}, src{"a>f(b)c d", "redir2(join('f' cat('b') 'c') call('a' 'd'))"},
	)
	refuses(t, api.ErrForm, refused{"^", 0}, refused{"^a", 0}, refused{"a^^b", 2}, refused{"a ^ ; b", 4}, refused{"a^\nb", 2}, refused{"a^>b", 2}, refused{"a^=b", 2}, refused{"a^)", 2}, refused{"a^}", 2}, refused{"a^{b}", 2}, refused{"a^!b", 2}, refused{"a^&&b", 2}, refused{"(a^)", 3}, refused{"(^a)", 1}, refused{"`{a^}", 4}, refused{"a!b", 1}, refused{"a{b}", 1})
	refuses(t, api.ErrEnd, refused{"a^", 2}, refused{"a ^ ", 4}, refused{"a^b^", 4}, refused{"x=a^", 4}, refused{"a^#b", 4})
}

// A word's Lits go up to MaxString bytes, as they are in its tree. A word that is
// too long is told where it begins, behind all that stands in it.
func TestLongWords(t *testing.T) {
	full := strings.Repeat("a", api.MaxString)
	half := strings.Repeat("*", api.MaxString/2)
	for _, x := range []struct {
		s           string
		plain, live bool // whether it is too long
	}{
		{full, false, false}, {full + "a", true, true}, {"'" + full + "'", false, false}, {"'" + full + "'a", true, true}, {full + "^a", true, true}, {"''" + full + "^''", false, false}, {full + "$x^" + full, false, false}, {full + "$x^" + full + "^a", true, true}, {full + "'b'$x", true, true}, {full + "(a)" + full, false, false}, {full + "`{a}" + full, false, false},
		{"'" + half + "'", false, false}, {"'" + half + "a'", false, true}, {"'" + half + "'^a", false, true}, {half + half, false, false}, {half + "'" + half + "'", false, true}, {"'" + half + "'$x'" + half + "'", false, false}, {"'" + half + "a'$x", false, true}, {"$x'" + half + "a'", false, true},
		{full[1:] + `\`, false, true}, {full[2:] + `\`, false, false}, {full[2:] + `\\`, false, false}, {half + half[2:] + `\`, false, false}, {half + half[1:] + `\`, true, true}, {full[1:] + `\$x`, false, true}, {full[2:] + `\^a`, false, true}, {full[1:] + `\^a`, true, true},
		{"('" + half + "a')", false, false}, {"(" + full + ")^" + full, false, false}, {"`{a " + full + "}", false, false}, {"`{a '" + half + "a'}", false, false},
	} {
		for _, w := range []within{{"a ", ""}, {"x=", ""}, {"b; a>", ""}, {"for(i in b ", ") a"}, {"switch(", "){}"}} {
			longAt(t, w, x.s, x.plain)
		}
		longAt(t, within{"switch(a){case b ", " c;}"}, x.s, x.live)
	}
	refuses(t, api.ErrLong, refused{"a x^(b " + full + "a", 7}, refused{"a " + full + "b )", 2}, refused{"a `{b " + full + "b )", 6}, refused{"a (b `{c (" + full + "b) )", 10}, refused{"a " + full + "b " + full + "c", 2}, refused{"a " + full + "b^(b) >", 2})
	refuses(t, api.ErrForm, refused{"a " + full + "b^(;", 2005}, refused{"a " + full + "b(c `{else})", 2008}, refused{"a " + full + "b^;", 2004}, refused{"a ; ) " + full + "b", 4})
	refuses(t, api.ErrEnd, refused{"a " + full + "b^", 2004}, refused{"a " + full + "b(c", 2005}, refused{"a " + full + "b`{c", 2006})
	refuses(t, api.ErrLong, refused{"if(a) " + full + "b else else", 6}, refused{full + "b=1", 0}, refused{"x=" + full + "b y", 2})
}

// longAt checks whether a word is too long where it stands so.
func longAt(t *testing.T, w within, s string, long bool) {
	t.Helper()
	l, err := Parse(w[0] + s + w[1])
	if long && (!isAt(err, len(w[0]), api.ErrLong) || len(l) > 0) || !long && err != nil {
		t.Errorf("%q %.20q.. of %d bytes: %v; too long: %v", w, s, len(s), err, long)
	}
}

// What is handed out is nobody else's.
func TestMemory(t *testing.T) {
	for _, s := range []string{"", "a", "{a}", "x=1 a `{b}^c (d *) >e | f", "switch($x){case a* $y^b;c}"} {
		one, _ := Parse(s)
		two, _ := Parse(s)
		if !core.Same(one, two) || len(one) == 0 {
			t.Fatalf("%s, %s", told(one), told(two))
		}
		before := slices.Clone(two)
		all := one[:cap(one)]
		for i := range all {
			all[i] = api.Node{Kind: -1}
		}
		three, _ := Parse(s)
		if !core.Same(two, before) || !core.Same(three, before) {
			t.Errorf("%s became %s, %s", told(before), told(two), told(three))
		}
	}
}
