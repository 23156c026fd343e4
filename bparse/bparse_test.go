package bparse

import (
	"errors"
	"fmt"
	"strings"
	"testing"

	"patois/api"
	"patois/core"
	"patois/spell"
)

// told is a tree as text: a Lit as 'a', one that is live as ~a~, a variable as
// $a, all else by its kind, N and S, with its children between brackets.
func told(l []api.Node) string {
	if len(l) == 0 {
		return ""
	}
	n := l[0]
	switch {
	case n.Kind == api.Lit && n.N == 0:
		return "'" + n.S + "'"
	case n.Kind == api.Lit:
		return "~" + n.S + "~"
	case n.Kind == api.Var:
		return "$" + n.S
	}
	s := spell.Kind(n.Kind)
	if n.N != 0 {
		s += fmt.Sprint(n.N)
	}
	if n.S != "" {
		s += ":" + n.S
	}
	var kids []string
	for _, kid := range core.Kids(l) {
		kids = append(kids, told(kid))
	}
	return s + "(" + strings.Join(kids, " ") + ")"
}

// src is a source, and what is told of its program.
type src [2]string

// parses checks the programs of sources, each of which may be.
func parses(t *testing.T, sources ...src) {
	t.Helper()
	for _, x := range sources {
		l, err := Parse(x[0])
		if told(l) != x[1] || err != nil || core.Check(l) != nil {
			t.Errorf("Parse(%.200q): %.400s, %v; not %.400s", x[0], told(l), err, x[1])
		}
	}
}

// refused is a source, and the place of its error.
type refused struct {
	s  string
	at int
}

// refuses checks that sources are refused with that error at their places.
func refuses(t *testing.T, want error, sources ...refused) {
	t.Helper()
	for _, x := range sources {
		l, err := Parse(x.s)
		if !isAt(err, x.at, want) || len(l) > 0 {
			t.Errorf("Parse(%.200q): %.100s, %v; not %d: %v", x.s, told(l), err, x.at, want)
		}
	}
}

// isAt answers whether err is that error around that place.
func isAt(err error, pos int, want error) bool {
	var at *api.At
	return errors.As(err, &at) && err == error(at) && at.Pos == pos && at.Err == want
}

func TestTheExamples(t *testing.T) {
	parses(t,
		src{"echo $x^.c", "call('echo' join($x '.c'))"},
		src{"x=(a b) echo $#x", "local:x(cat('a' 'b') call('echo' count($x)))"},
		src{"for(i in *.c) {echo $i}", "for:i(glob(~*.c~) call('echo' $i))"},
		src{"switch($x){case a* 'b*'; echo y}", `case(flat($x) cat(~a*~ ~b\*~) call('echo' 'y'))`},
	)
	refuses(t, api.ErrEnd, refused{"if(a) b else", 12})
}

func TestLists(t *testing.T) {
	parses(t,
		src{"", "nop()"}, src{" ", "nop()"}, src{"\n", "nop()"}, src{";", "nop()"}, src{"; ;\n\n;", "nop()"}, src{"# a", "nop()"}, src{"#a\n#b", "nop()"},
		src{"a", "call('a')"}, src{"a;", "call('a')"}, src{"\n;a\n", "call('a')"}, src{"a #b", "call('a')"}, src{"a#b", "call('a')"},
		src{"a;b", "seq(call('a') call('b'))"}, src{"a\nb", "seq(call('a') call('b'))"}, src{"a; \n ;\n b ;\n;", "seq(call('a') call('b'))"}, src{"a;;b", "seq(call('a') call('b'))"},
		src{"a;b\nc;d", "seq(call('a') call('b') call('c') call('d'))"},
		src{"a;{b;c};d", "seq(call('a') seq(call('b') call('c')) call('d'))"},
		src{"{;};{\n}", "seq(nop() nop())"},
	)
	refuses(t, api.ErrForm, refused{")", 0}, refused{"}", 0}, refused{"a)", 1}, refused{"a }", 2}, refused{"a;)", 2}, refused{"a\n}", 2}, refused{"case", 0}, refused{";case a", 1}, refused{"a; case", 3}, refused{"=", 0}, refused{"^", 0}, refused{";^a", 1})
}

func TestChainsAndPipes(t *testing.T) {
	parses(t,
		src{"a&&b", "and(call('a') call('b'))"}, src{"a||b", "or(call('a') call('b'))"},
		src{"a&&b||c&&d", "and(or(and(call('a') call('b')) call('c')) call('d'))"},
		src{"a||b||c", "or(or(call('a') call('b')) call('c'))"},
		src{"a &&\n\n b", "and(call('a') call('b'))"}, src{"a ||\nb;c", "seq(or(call('a') call('b')) call('c'))"}, src{"a&&#x\nb", "and(call('a') call('b'))"},
		src{"a|b", "pipe(call('a') call('b'))"}, src{"a|\n\nb|c", "pipe(call('a') call('b') call('c'))"},
		src{"a|b&&c|d", "and(pipe(call('a') call('b')) pipe(call('c') call('d')))"},
		src{"!a", "not(call('a'))"}, src{"! a", "not(call('a'))"}, src{"!a|b", "not(pipe(call('a') call('b')))"}, src{"'!' a", "call('!' 'a')"},
		src{"!a&&!b", "and(not(call('a')) not(call('b')))"}, src{"a ||\n! b", "or(call('a') not(call('b')))"}, src{"!{a}", "not(call('a'))"},
		src{"{a|b}|c", "pipe(pipe(call('a') call('b')) call('c'))"}, src{"!{!a}", "not(not(call('a')))"}, src{"!if(a) b", "not(if(call('a') call('b') nop()))"},
	)
	refuses(t, api.ErrForm,
		refused{"&& a", 0}, refused{"|| a", 0}, refused{"| a", 0}, refused{"a && && b", 5}, refused{"a || | b", 5}, refused{"a | | b", 4}, refused{"a\n&& b", 2}, refused{"a; | b", 3},
		refused{"a && ;", 5}, refused{"a &&\n;b", 5}, refused{"a |\n;b", 4}, refused{"! ! a", 2}, refused{"!\na", 1}, refused{"! ;", 2}, refused{"a | ! b", 4}, refused{"! && a", 2}, refused{"a && else", 5}, refused{"a | }", 4}, refused{"! in", 2}, refused{"a && )", 5}, refused{"a || case", 5}, refused{"a | case", 4}, refused{"!case", 1}, refused{"a !", 2}, refused{"a !b", 2},
	)
	refuses(t, api.ErrEnd, refused{"a &&", 4}, refused{"a || \n", 6}, refused{"a |", 3}, refused{"a | # b", 7}, refused{"!", 1}, refused{"a && ! ", 7})
}

func TestBraces(t *testing.T) {
	parses(t,
		src{"{a}", "call('a')"}, src{"{ }", "nop()"}, src{"{}", "nop()"}, src{"{\na\n}", "call('a')"}, src{"{{a}}", "call('a')"}, src{"'{' a", "call('{' 'a')"},
		src{"{a}>f", "redir2('f' call('a'))"}, src{"{a} <f >>g <<<h", "redir1('f' redir3('g' here('h' call('a'))))"}, src{"{}>f", "redir2('f' nop())"},
		src{"{a} && b", "and(call('a') call('b'))"}, src{"{a}|{b}", "pipe(call('a') call('b'))"}, src{"{a;}\n{;b}", "seq(call('a') call('b'))"},
	)
	refuses(t, api.ErrForm, refused{"}", 0}, refused{"{a} b", 4}, refused{"{a}b", 3}, refused{"{a} }", 4}, refused{"{a} {b}", 4}, refused{"{a} >f b", 7}, refused{"{a} x=1", 4}, refused{"{a )", 3}, refused{"{a; case", 4}, refused{"{a}(", 3}, refused{"a {", 2}, refused{"a{b}", 1}, refused{"{else}", 1}, refused{"{ in }", 2}, refused{"{a} else", 4}, refused{"{a}^b", 3})
	refuses(t, api.ErrEnd, refused{"{", 1}, refused{"{a '}'", 6}, refused{"{a;", 3}, refused{"{{a}", 4}, refused{"{a} >", 5})
}

func TestIf(t *testing.T) {
	parses(t,
		src{"if(a) b", "if(call('a') call('b') nop())"}, src{"if(a)b", "if(call('a') call('b') nop())"}, src{"if ( a ) b else c", "if(call('a') call('b') call('c'))"}, src{"if()b", "if(nop() call('b') nop())"}, src{"if(;\n){}else{}", "if(nop() nop() nop())"}, src{"if((a))b", "if(call(cat('a')) call('b') nop())"},
		src{"if(a)\n\nb else\n\nc", "if(call('a') call('b') call('c'))"}, src{"if(a;b|c)d", "if(seq(call('a') pipe(call('b') call('c'))) call('d') nop())"}, src{"if(!a)b", "if(not(call('a')) call('b') nop())"},
		src{"if(a) {b} else {c}>f", "if(call('a') call('b') redir2('f' call('c')))"}, src{"if(a) {b}>f else c", "if(call('a') redir2('f' call('b')) call('c'))"}, src{"if(a) b >f else c", "if(call('a') redir2('f' call('b')) call('c'))"}, src{"if(a) >f else c", "if(call('a') redir2('f' nop()) call('c'))"},
		src{"if(a) x=1 else y=2", "if(call('a') set:x('1') set:y('2'))"}, src{"if(a) fn f {b} else c", "if(call('a') fun:f(call('b')) call('c'))"}, src{"if(a) switch(b){} else c", "if(call('a') case(flat('b')) call('c'))"}, src{"if(a) {b}else{c}", "if(call('a') call('b') call('c'))"},
		src{"if(a) b | c", "pipe(if(call('a') call('b') nop()) call('c'))"}, src{"if(a) b else c && d", "and(if(call('a') call('b') call('c')) call('d'))"}, src{"if(a) b; c", "seq(if(call('a') call('b') nop()) call('c'))"}, src{"a | if(b) c", "pipe(call('a') if(call('b') call('c') nop()))"},
		src{"if(if(a) b) c", "if(if(call('a') call('b') nop()) call('c') nop())"}, src{"a if(b)", "call('a' join('if' cat('b')))"}, src{"'if' (a)", "call('if' cat('a'))"}, src{"iffy(a)", "call(join('iffy' cat('a')))"},
	)
	refuses(t, api.ErrForm,
		refused{"if a", 3}, refused{"if\n(a)", 2}, refused{"if;", 2}, refused{"if{a}", 2}, refused{"if=1", 2}, refused{"if^a", 2}, refused{"if'a'", 2}, refused{"if(a} b", 4}, refused{"if(a; case) b", 6}, refused{"if(a);b", 5}, refused{"if(a) ; b", 6}, refused{"if(a) !b", 6}, refused{"if(a) && b", 6}, refused{"if(a) )", 6}, refused{"if(a) in", 6}, refused{"if(a) case", 6}, refused{"if(a) else b", 6},
		refused{"if(a) b else ;c", 13}, refused{"if(a) b else !c", 13}, refused{"if(a) b else else c", 13}, refused{"if(a) b else in", 13}, refused{"if(a) b\nelse c", 8}, refused{"if(a) b; else c", 9}, refused{"if(a) b | c else d", 12}, refused{"if(a) b && c else d", 13}, refused{"if(else) a", 3}, refused{"if(a else b) c", 5}, refused{"if(a) b else c else d", 15}, refused{"if(a) {b} c", 10}, refused{"if(a) b else {c} d", 17}, refused{"else", 0}, refused{"a; else b", 3},
	)
	refuses(t, api.ErrEnd, refused{"if", 2}, refused{"if(", 3}, refused{"if(a", 4}, refused{"if((a)", 6}, refused{"if(a)", 5}, refused{"if(a)\n", 6}, refused{"if(a) b else", 12}, refused{"if(a) b else\n", 13}, refused{"if(a ')'", 8})
}

// An else belongs to the if right ahead, through loops, but not out of braces.
func TestElse(t *testing.T) {
	parses(t,
		src{"if(a) if(b) c else d", "if(call('a') if(call('b') call('c') call('d')) nop())"}, src{"if(a) if(b) c else d else e", "if(call('a') if(call('b') call('c') call('d')) call('e'))"}, src{"if(a) b else if(c) d else e", "if(call('a') call('b') if(call('c') call('d') call('e')))"},
		src{"if(a) {if(b) c} else d", "if(call('a') if(call('b') call('c') nop()) call('d'))"}, src{"if(a) while(b) c else d", "if(call('a') while(call('b') call('c')) call('d'))"}, src{"if(a) for(i in b) c else d", "if(call('a') for:i('b' call('c')) call('d'))"}, src{"while(a) if(b) c else d", "while(call('a') if(call('b') call('c') call('d')))"},
		src{"if(a) while(b) if(c) d else e else f", "if(call('a') while(call('b') if(call('c') call('d') call('e'))) call('f'))"},
	)
	refuses(t, api.ErrForm, refused{"while(a) b else c", 11}, refused{"for(i in a) b else c", 14}, refused{"if(a) {b else c}", 9}, refused{"fn f {a} else b", 9}, refused{"switch(a){} else b", 12}, refused{"if(a) `{b else c}", 10})
}

// A simple ends at an else that a word of it would begin with; between brackets,
// where a turn or a setting has its word, and within a word it is text.
func TestElseAsAWord(t *testing.T) {
	parses(t,
		src{"a (else)", "call('a' cat('else'))"}, src{"a ((else) b else)", "call('a' cat(cat('else') 'b' 'else'))"}, src{"a 'else'", "call('a' 'else')"}, src{"for(i in else else) a", "for:i(cat('else' 'else') call('a'))"}, src{"switch(else){case else; a}", "case(flat('else') ~else~ call('a'))"},
		src{"a elsewhere", "call('a' 'elsewhere')"}, src{"a x^else", "call('a' 'xelse')"}, src{"a 'x'else", "call('a' 'xelse')"}, src{"x=else", "set:x('else')"}, src{"x=else a", "local:x('else' call('a'))"}, src{"a >else", "redir2('else' call('a'))"}, src{"if(a) b <else else c", "if(call('a') redir1('else' call('b')) call('c'))"}, src{"if(a) x=else else c", "if(call('a') set:x('else') call('c'))"},
	)
	refuses(t, api.ErrForm, refused{"a else", 2}, refused{"a b else", 4}, refused{"x=1 else", 4}, refused{">f else", 3}, refused{"a (b) else", 6}, refused{"a else^b", 2}, refused{"a else'b'", 2}, refused{"a else=1", 2}, refused{"x=1 else=2", 4}, refused{"if(a) b else=c", 12}, refused{"if(a) b else^c", 12}, refused{"`{else}", 2})
}

func TestWhile(t *testing.T) {
	parses(t,
		src{"while(a) b", "while(call('a') call('b'))"}, src{"while(){}", "while(nop() nop())"}, src{"while(a\nb)\n\n{c}>f", "while(seq(call('a') call('b')) redir2('f' call('c')))"}, src{"while ( a ) b c | d", "pipe(while(call('a') call('b' 'c')) call('d'))"},
		src{"while(a) while(b) c", "while(call('a') while(call('b') call('c')))"}, src{"while(a) x=1", "while(call('a') set:x('1'))"}, src{"while(a) >f", "while(call('a') redir2('f' nop()))"}, src{"a while(b)", "call('a' join('while' cat('b')))"},
	)
	refuses(t, api.ErrForm, refused{"while a", 6}, refused{"while\n(a)", 5}, refused{"while(a);b", 8}, refused{"while(a}", 7}, refused{"while(a) !b", 9}, refused{"while(a) )", 9}, refused{"while=1", 5}, refused{"while(a) else", 9}, refused{"while(a) {b} c", 13})
	refuses(t, api.ErrEnd, refused{"while", 5}, refused{"while(", 6}, refused{"while(a", 7}, refused{"while(a)", 8}, refused{"while(a)\n\n", 10})
}

func TestFor(t *testing.T) {
	parses(t,
		src{"for(i in a b) c", "for:i(cat('a' 'b') call('c'))"}, src{"for(i in a)\n\nc", "for:i('a' call('c'))"}, src{"for(i in){}", "for:i(cat() nop())"}, src{"for ( i in ) c >f", "for:i(cat() redir2('f' call('c')))"}, src{"for(i in(a b)) c", "for:i(cat('a' 'b') call('c'))"}, src{"for(i in (a)) c", "for:i(cat('a') call('c'))"}, src{"for(i in (a) b) c", "for:i(cat(cat('a') 'b') call('c'))"}, src{"for(i in ()) c", "for:i(cat() call('c'))"},
		src{"for(i in $x * 'b'^$y) a", "for:i(cat($x glob(~*~) join('b' $y)) call('a'))"}, src{"for(i in $\"x) a", "for:i(flat($x) call('a'))"}, src{"for(i in `{a}) b", "for:i(sub(call('a')) call('b'))"}, src{"for(i in a)for(j in b)c", "for:i('a' for:j('b' call('c')))"}, src{"for(i in a) b && c", "and(for:i('a' call('b')) call('c'))"},
		src{"for(in in in in) a", "for:in(cat('in' 'in') call('a'))"}, src{"for(if in for case fn) a", "for:if(cat('for' 'case' 'fn') call('a'))"}, src{"for(else in) a", "for:else(cat() call('a'))"}, src{"for(case in) a", "for:case(cat() call('a'))"}, src{"for(for in) for(fn in) a", "for:for(cat() for:fn(cat() call('a')))"}, src{"for(abcdefghijklmnopqrst in) a", "for:abcdefghijklmnopqrst(cat() call('a'))"}, src{"for(_1 in) a", "for:_1(cat() call('a'))"}, src{"a for(i in b)", "call('a' join('for' cat('i' 'in' 'b')))"},
	)
	refuses(t, api.ErrForm,
		refused{"for i in a", 4}, refused{"for\n(i in a)", 3}, refused{"for=1", 3}, refused{"for()", 4}, refused{"for(\ni in a)", 4}, refused{"for(1 in a) b", 4}, refused{"for('i' in a) b", 4}, refused{"for($i in a) b", 4}, refused{"for((i) in a) b", 4}, refused{"for(i* in) a", 4}, refused{"for(abcdefghijklmnopqrstu in) a", 4}, refused{"for(i) a", 5}, refused{"for(i a) b", 6}, refused{"for(i 'in' a) b", 6}, refused{"for(i In a) b", 6}, refused{"for(i'' in a) b", 5}, refused{"for(i^j in a) b", 5}, refused{"for(i\nin a) b", 5}, refused{"for(i in^a) b", 8},
		refused{"for(i in a;) b", 10}, refused{"for(i in a\n) b", 10}, refused{"for(i in a > b) c", 11}, refused{"for(i in x=1) c", 10}, refused{"for(i in a} b", 10}, refused{"for(i in !) b", 9}, refused{"for(i in a); b", 11}, refused{"for(i in a) !b", 12}, refused{"for(i in a) )", 12}, refused{"for(i in a) {b} c", 16}, refused{"for(i in a) in", 12},
	)
	refuses(t, api.ErrEnd, refused{"for", 3}, refused{"for(", 4}, refused{"for(i", 5}, refused{"for(i in", 8}, refused{"for(i in a", 10}, refused{"for(i in a)", 11}, refused{"for(i in a)\n", 12}, refused{"for(i in (a)", 12})
}

func TestSwitch(t *testing.T) {
	parses(t,
		src{"switch(a){}", "case(flat('a'))"}, src{"switch ( a )\n\n{;\n;}", "case(flat('a'))"}, src{"switch(a){case b;c}", "case(flat('a') ~b~ call('c'))"}, src{"switch(a){case b\nc\n}", "case(flat('a') ~b~ call('c'))"}, src{"switch(a){\ncase b;\ncase c;}", "case(flat('a') ~b~ nop() ~c~ nop())"}, src{"switch(a){case b;c;case d;e;f}", "case(flat('a') ~b~ call('c') ~d~ seq(call('e') call('f')))"}, src{"switch(a){case b;;\n;c}", "case(flat('a') ~b~ call('c'))"},
		src{"switch(a){case;b}", "case(flat('a') cat() call('b'))"}, src{"switch(a){case\n}", "case(flat('a') cat() nop())"}, src{"switch(a){case;case;}", "case(flat('a') cat() nop() cat() nop())"}, src{"switch(a){case b c d;}", "case(flat('a') cat(~b~ ~c~ ~d~) nop())"}, src{"switch(a){case b;{c}}", "case(flat('a') ~b~ call('c'))"},
		src{"switch($x){case $x '*' * $1;}", `case(flat($x) cat(esc($x) ~\*~ ~*~ esc(pick1($*))) nop())`}, src{"switch(*){}", "case(flat(glob(~*~)))"}, src{"switch($\"x){}", "case(flat(flat($x)))"}, src{"switch((a b)){case (a b);}", "case(flat(cat('a' 'b')) esc(cat('a' 'b')) nop())"}, src{"switch(a^b){case(a)b;}", "case(flat('ab') join(esc(cat('a')) ~b~) nop())"}, src{"switch(`{a}){case `{b};c}", "case(flat(sub(call('a'))) esc(sub(call('b'))) call('c'))"},
		src{"switch(a){case b;c}>f<g", "redir2('f' redir1('g' case(flat('a') ~b~ call('c'))))"}, src{"switch(a){}|b", "pipe(case(flat('a')) call('b'))"}, src{"switch(case){case case in if;a case}", "case(flat('case') cat(~case~ ~in~ ~if~) call('a' 'case'))"}, src{"switch(a){case b;switch(c){case d;e};case f;g}", "case(flat('a') ~b~ case(flat('c') ~d~ call('e')) ~f~ call('g'))"}, src{"switch(a){case b;x=1 case;case c;}", "case(flat('a') ~b~ local:x('1' call('case')) ~c~ nop())"},
	)
	refuses(t, api.ErrForm,
		refused{"switch a", 7}, refused{"switch=1", 6}, refused{"switch()", 7}, refused{"switch(a b)", 9}, refused{"switch(\na)", 7}, refused{"switch(a;)", 8}, refused{"switch(^a)", 7}, refused{"switch(!a)", 7}, refused{"switch(a);{", 9}, refused{"switch(a) b", 10}, refused{"switch(a)\n\ncase", 11}, refused{"switch(a) (", 10},
		refused{"switch(a){b}", 10}, refused{"switch(a){)", 10}, refused{"switch(a){;else", 11}, refused{"switch(a){'case' b;}", 10}, refused{"switch(a){case b}", 16}, refused{"switch(a){case}", 14}, refused{"switch(a){case b{c}}", 16}, refused{"switch(a){case b&&c}", 16}, refused{"switch(a){case b >c;}", 17}, refused{"switch(a){case x=1;}", 16}, refused{"switch(a){case ^b;}", 15}, refused{"switch(a){case b)c}", 16}, refused{"switch(a){case b;c)}", 18}, refused{"switch(a){case b;c else}", 19}, refused{"switch(a){case b;&&}", 17}, refused{"switch(a){case b;c} d", 20}, refused{"switch(a){case b;c}^", 19},
		refused{"switch(a){case b;{c;case d;}}", 20}, refused{"switch(a){case b;if(c;case d)e}", 22}, refused{"switch(a){case b;if(c) case d;e}", 23}, refused{"switch(a){case b;c&&case d;}", 20}, refused{"switch(a){case b;!case d;}", 18}, refused{"switch(a){case b;`{case d;}}", 19}, refused{"switch(a){case=b;}", 14}, refused{"case a; b", 0},
	)
	refuses(t, api.ErrEnd, refused{"switch", 6}, refused{"switch(", 7}, refused{"switch(a", 8}, refused{"switch(a)", 9}, refused{"switch(a)\n", 10}, refused{"switch(a){", 10}, refused{"switch(a){;", 11}, refused{"switch(a){case", 14}, refused{"switch(a){case b", 16}, refused{"switch(a){case b;", 17}, refused{"switch(a){case b;c", 18}, refused{"switch(a){case b;c\n", 19}, refused{"switch(a){case b;{c}", 20})
}

func TestFunctions(t *testing.T) {
	parses(t,
		src{"fn f {a}", "fun:f(call('a'))"}, src{"fn f{}", "fun:f(nop())"}, src{"fn f{\na\n;b\n}", "fun:f(seq(call('a') call('b')))"}, src{"fn f{a}|b", "pipe(fun:f(call('a')) call('b'))"}, src{"!fn f{a}&&fn g{b}", "and(not(fun:f(call('a'))) fun:g(call('b')))"}, src{"fn f{fn g{a}}", "fun:f(fun:g(call('a')))"}, src{"fn abcdefghijklmnopqrst{};fn _{}", "seq(fun:abcdefghijklmnopqrst(nop()) fun:_(nop()))"}, src{"if(a) fn f{b}", "if(call('a') fun:f(call('b')) nop())"}, src{"a fn f", "call('a' 'fn' 'f')"}, src{"fnf", "call('fnf')"},
	)
	refuses(t, api.ErrForm,
		refused{"fn {a}", 3}, refused{"fn 'f' {a}", 3}, refused{"fn $f {a}", 3}, refused{"fn 1 {a}", 3}, refused{"fn f* {a}", 3}, refused{"fn (f) {a}", 3}, refused{"fn\nf {a}", 2}, refused{"fn=1", 2}, refused{"fn abcdefghijklmnopqrstu {a}", 3}, refused{"fn f\n{a}", 4}, refused{"fn f a", 5}, refused{"fn f g {a}", 5}, refused{"fn f() {a}", 4}, refused{"fn f'' {a}", 4}, refused{"fn f=1", 4}, refused{"fn f {a)", 7}, refused{"fn f {a; case}", 9}, refused{"fn f {a} >b", 9}, refused{"fn f {a} b", 9}, refused{"fn f {a}b", 8}, refused{"fn f ;", 5}, refused{"fn f `{a}", 5},
	)
	for _, key := range strings.Fields("if else while for in switch case fn") {
		refuses(t, api.ErrForm, refused{"fn " + key + " {a}", 3}, refused{"x=1 " + key + "=2", 4 + map[bool]int{true: 0, false: len(key)}[key == "else"]})
	}
	refuses(t, api.ErrEnd, refused{"fn", 2}, refused{"fn f", 4}, refused{"fn f {", 6}, refused{"fn f {a", 7}, refused{"fn f {a;", 8})
}

func TestSettings(t *testing.T) {
	parses(t,
		src{"x=1", "set:x('1')"}, src{"x = 1", "set:x('1')"}, src{"x=''", "set:x('')"}, src{"x=()", "set:x(cat())"}, src{"x=(a)", "set:x(cat('a'))"}, src{"x=1 y=2 z=3", "seq(set:x('1') set:y('2') set:z('3'))"}, src{"x=1;y=2", "seq(set:x('1') set:y('2'))"}, src{"x=y", "set:x('y')"},
		src{"x=1 a", "local:x('1' call('a'))"}, src{"x=1 y=2 a b", "local:x('1' local:y('2' call('a' 'b')))"}, src{"x=1 x=2 a", "local:x('1' local:x('2' call('a')))"}, src{"x= a", "set:x('a')"}, src{"x= a b", "local:x('a' call('b'))"}, src{"x=a^b^c d", "local:x('abc' call('d'))"}, src{"x=$y'z'(w) d", "local:x(join($y 'z' cat('w')) call('d'))"},
		src{"x=$y", "set:x($y)"}, src{"x=*", "set:x(glob(~*~))"}, src{"x=$*", "set:x($*)"}, src{"x=`{y=$z}", "set:x(sub(set:y($z)))"}, src{"x=in", "set:x('in')"}, src{"x=if a", "local:x('if' call('a'))"}, src{"x=1 if (a)", "local:x('1' call('if' cat('a')))"}, src{"x=1 in case for", "local:x('1' call('in' 'case' 'for'))"},
		src{"abcdefghijklmnopqrst=1", "set:abcdefghijklmnopqrst('1')"}, src{"_=1", "set:_('1')"}, src{"x=1 ''", "local:x('1' call(''))"}, src{"x=1 ()", "local:x('1' call(cat()))"}, src{"{x=1}", "set:x('1')"}, src{"x=1|y=2", "pipe(set:x('1') set:y('2'))"},
	)
	refuses(t, api.ErrForm,
		refused{"=", 0}, refused{"=a", 0}, refused{"a b=c", 3}, refused{"a =b c d=e", 8}, refused{"x=y=1", 3}, refused{"1=a", 1}, refused{"'x'=1", 3}, refused{"$x=1", 2}, refused{"(x)=1", 3}, refused{"x^y=1", 3}, refused{"x-y=1", 3}, refused{"x*=1", 2}, refused{"x=1 a=2 b c=3", 11}, refused{"abcdefghijklmnopqrstu=1", 21}, refused{">f x=1", 4}, refused{"x=1 >f y=2", 8}, refused{"x==", 2}, refused{"x=;", 2}, refused{"x=\na", 2}, refused{"x=>f", 2}, refused{"x=^a", 2}, refused{"x=!a", 2}, refused{"x={a}", 2}, refused{"x=)", 2}, refused{"x\n=1", 2}, refused{"in=1", 0}, refused{"else=1", 0}, refused{"case=1", 0}, refused{"a (x=1)", 4},
	)
	refuses(t, api.ErrEnd, refused{"x=", 2}, refused{"x =", 3}, refused{"x=1 y= ", 7}, refused{"x=(", 3}, refused{"x=a^", 4})
}

func TestTurns(t *testing.T) {
	parses(t,
		src{"a<f", "redir1('f' call('a'))"}, src{"a>f", "redir2('f' call('a'))"}, src{"a>>f", "redir3('f' call('a'))"}, src{"a<<<f", "here('f' call('a'))"}, src{">f", "redir2('f' nop())"}, src{"<f >g", "redir1('f' redir2('g' nop()))"},
		src{">f a >g b <h", "redir2('f' redir2('g' redir1('h' call('a' 'b'))))"}, src{"x=1 y=2 >f a <g", "redir2('f' redir1('g' local:x('1' local:y('2' call('a')))))"}, src{"x=1 >f", "redir2('f' set:x('1'))"}, src{"x=1 y=2 <<<f", "here('f' seq(set:x('1') set:y('2')))"},
		src{"a >$x", "redir2($x call('a'))"}, src{"a >*", "redir2(glob(~*~) call('a'))"}, src{"a >'b c'$1", "redir2(join('b c' pick1($*)) call('a'))"}, src{"a <<<`{b}", "here(sub(call('b')) call('a'))"}, src{"a >(b c)", "redir2(cat('b' 'c') call('a'))"}, src{"a >()", "redir2(cat() call('a'))"}, src{"a >f^g h", "redir2('fg' call('a' 'h'))"}, src{"a >f'g'h i", "redir2('fgh' call('a' 'i'))"}, src{"a >if", "redir2('if' call('a'))"}, src{"a >\"", "redir2('\"' call('a'))"},
		src{">f if", "redir2('f' call('if'))"}, src{">f if (a); b", "seq(redir2('f' call('if' cat('a'))) call('b'))"}, src{"<f in case", "redir1('f' call('in' 'case'))"}, src{"a >f | b <g", "pipe(redir2('f' call('a')) redir1('g' call('b')))"}, src{"! a >f", "not(redir2('f' call('a')))"}, src{"a >f && b", "and(redir2('f' call('a')) call('b'))"},
	)
	refuses(t, api.ErrForm, refused{"a > ;", 4}, refused{"a >\nb", 3}, refused{"a > > b", 4}, refused{"a << b", 3}, refused{"a >>> b", 4}, refused{"> | a", 2}, refused{"a <{b}", 3}, refused{"a >f{", 4}, refused{"{a} > )", 6}, refused{"a >^b", 3}, refused{"a >!b", 3}, refused{"a >=b", 3}, refused{"a >f=b", 4})
	refuses(t, api.ErrEnd, refused{"a >", 3}, refused{"<", 1}, refused{">>", 2}, refused{"a <<< ", 6}, refused{"{a} >", 5}, refused{"a >f^", 5}, refused{"switch(a){}<", 12})
}

func TestCalls(t *testing.T) {
	parses(t,
		src{"a b c", "call('a' 'b' 'c')"}, src{"$x", "call($x)"}, src{"''", "call('')"}, src{"()", "call(cat())"}, src{"(a b) c", "call(cat('a' 'b') 'c')"}, src{"`{a} b", "call(sub(call('a')) 'b')"}, src{"*", "call(glob(~*~))"}, src{"$1 a", "call(pick1($*) 'a')"}, src{"a if while for in switch case fn", "call('a' 'if' 'while' 'for' 'in' 'switch' 'case' 'fn')"},
		src{"i'f' a", "call('if' 'a')"}, src{"i^f a", "call('if' 'a')"}, src{"''else", "call('else')"}, src{"If (a)", "call('If' cat('a'))"}, src{"then do done fi esac", "call('then' 'do' 'done' 'fi' 'esac')"}, src{`\`, `call('\')`}, src{`"a" b`, `call('"a"' 'b')`}, src{"[ ]", "call('[' ']')"}, src{"a,b:c.d/e~f@g%h+i-j_k", "call('a,b:c.d/e~f@g%h+i-j_k')"}, src{"\x00\xff", "call('\x00\xff')"},
	)
	refuses(t, api.ErrForm, refused{"a )", 2}, refused{"a b }", 4}, refused{"a {", 2}, refused{"a (b\n)", 4}, refused{"a (b;)", 4}, refused{"a (b}", 4}, refused{"a (b >c)", 5}, refused{"a (^b)", 3}, refused{"a (b|c)", 4}, refused{"a = b c d = e", 10}, refused{"a ! b", 2})
	refuses(t, api.ErrEnd, refused{"a (", 3}, refused{"a (b", 4}, refused{"a ((b)", 6}, refused{"a `{", 4}, refused{"a `{b", 5}, refused{"a `{b;{c}", 9})
}

func TestKey(t *testing.T) {
	keys := strings.Fields("if else while for in switch case fn")
	for i, key := range keys {
		if !Key(key) {
			t.Errorf("Key(%q): false", key)
		}
		for _, s := range []string{key + " ", " " + key, key + key, key[:len(key)-1], key + keys[(i+1)%len(keys)], "'" + key + "'", key + "\x00", strings.ToUpper(key), strings.ToUpper(key[:1]) + key[1:]} {
			if Key(s) {
				t.Errorf("Key(%q): true", s)
			}
		}
	}
	for _, s := range []string{"", " ", "then", "fi", "do", "done", "esac", "not", "elif", "break", "return", "{", "}", "(", ")", "!", "^", "=", "`{", ";", "\n", "a"} {
		if Key(s) {
			t.Errorf("Key(%q): true", s)
		}
	}
}
