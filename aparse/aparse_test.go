package aparse

import (
	"errors"
	"fmt"
	"strings"
	"testing"

	"patois/api"
	"patois/core"
	"patois/spell"
)

// told is a tree as text: a Lit as 'a', one that is live as ~a~, a variable as
// $a, all else by its kind, N and S, with its children between brackets.
func told(l []api.Node) string {
	if len(l) == 0 {
		return ""
	}
	n := l[0]
	switch {
	case n.Kind == api.Lit && n.N == 0:
		return "'" + n.S + "'"
	case n.Kind == api.Lit:
		return "~" + n.S + "~"
	case n.Kind == api.Var:
		return "$" + n.S
	}
	s := spell.Kind(n.Kind)
	if n.N != 0 {
		s += fmt.Sprint(n.N)
	}
	if n.S != "" {
		s += ":" + n.S
	}
	var kids []string
	for _, kid := range core.Kids(l) {
		kids = append(kids, told(kid))
	}
	return s + "(" + strings.Join(kids, " ") + ")"
}

// src is a source, and what is told of its program.
type src [2]string

// parses checks the programs of sources, each of which may be.
func parses(t *testing.T, sources ...src) {
	t.Helper()
	for _, x := range sources {
		l, err := Parse(x[0])
		if told(l) != x[1] || err != nil || core.Check(l) != nil {
			t.Errorf("Parse(%.200q): %.400s, %v; not %.400s", x[0], told(l), err, x[1])
		}
	}
}

// refused is a source, and the place of its error.
type refused struct {
	s  string
	at int
}

// refuses checks that sources are refused with that error at their places.
func refuses(t *testing.T, want error, sources ...refused) {
	t.Helper()
	for _, x := range sources {
		l, err := Parse(x.s)
		if !isAt(err, x.at, want) || len(l) > 0 {
			t.Errorf("Parse(%.200q): %.100s, %v; not %d: %v", x.s, told(l), err, x.at, want)
		}
	}
}

// isAt answers whether err is that error around that place.
func isAt(err error, pos int, want error) bool {
	var at *api.At
	return errors.As(err, &at) && err == error(at) && at.Pos == pos && at.Err == want
}

func TestTheExamples(t *testing.T) {
	parses(t,
		src{"echo a", "call('echo' 'a')"},
		src{"x=1 echo $x", "local:x('1' call('echo' glob(split($x))))"},
		src{`echo "$x"*`, "call('echo' glob(split(join(esc(flat($x)) ~*~))))"},
		src{"! a | b && c", "and(not(pipe(call('a') call('b'))) call('c'))"},
	)
	refuses(t, api.ErrEnd, refused{"if a", 4})
	refuses(t, api.ErrForm, refused{"fi", 0})
}

func TestLists(t *testing.T) {
	parses(t,
		src{"", "nop()"}, src{" ", "nop()"}, src{"\n", "nop()"}, src{";", "nop()"}, src{"; ;\n\n;", "nop()"}, src{"# a", "nop()"}, src{"#a\n#b", "nop()"},
		src{"a", "call('a')"}, src{"a;", "call('a')"}, src{"\n;a\n", "call('a')"}, src{"a #b", "call('a')"},
		src{"a;b", "seq(call('a') call('b'))"}, src{"a\nb", "seq(call('a') call('b'))"}, src{"a; \n ;\n b ;\n;", "seq(call('a') call('b'))"},
		src{"a;b\nc;d", "seq(call('a') call('b') call('c') call('d'))"},
		src{"a;{ b;c;};d", "seq(call('a') seq(call('b') call('c')) call('d'))"},
		src{"{ ; };{\n}", "seq(nop() nop())"},
	)
}

func TestChainsAndPipes(t *testing.T) {
	parses(t,
		src{"a&&b", "and(call('a') call('b'))"}, src{"a||b", "or(call('a') call('b'))"},
		src{"a&&b||c&&d", "and(or(and(call('a') call('b')) call('c')) call('d'))"},
		src{"a||b||c", "or(or(call('a') call('b')) call('c'))"},
		src{"a &&\n\n b", "and(call('a') call('b'))"}, src{"a ||\nb;c", "seq(or(call('a') call('b')) call('c'))"}, src{"a&&#x\nb", "and(call('a') call('b'))"},
		src{"a|b", "pipe(call('a') call('b'))"}, src{"a|\n\nb|c", "pipe(call('a') call('b') call('c'))"},
		src{"a|b&&c|d", "and(pipe(call('a') call('b')) pipe(call('c') call('d')))"},
		src{"!a", "call('!a')"}, src{"! a", "not(call('a'))"}, src{"a !", "call('a' '!')"}, src{"! a|b", "not(pipe(call('a') call('b')))"},
		src{"! a&&! b", "and(not(call('a')) not(call('b')))"}, src{"a ||\n! b", "or(call('a') not(call('b')))"}, src{"! { a; }", "not(call('a'))"},
		src{"{ a|b; }|c", "pipe(pipe(call('a') call('b')) call('c'))"}, src{"! { ! a; }", "not(not(call('a')))"}, src{"'!' a", "call('!' 'a')"},
	)
	refuses(t, api.ErrForm,
		refused{"&& a", 0}, refused{"|| a", 0}, refused{"| a", 0}, refused{"a && && b", 5}, refused{"a || | b", 5}, refused{"a | | b", 4}, refused{"a\n&& b", 2}, refused{"a; | b", 3},
		refused{"a && ;", 5}, refused{"a &&\n;b", 5}, refused{"a |\n;b", 4}, refused{"! ! a", 2}, refused{"!\na", 1}, refused{"! ;", 2}, refused{"a | ! b", 4}, refused{"! && a", 2}, refused{"a && fi", 5}, refused{"a | }", 4}, refused{"! done", 2}, refused{"a && )", 5}, refused{"a || ;;", 5},
	)
	refuses(t, api.ErrEnd, refused{"a &&", 4}, refused{"a || \n", 6}, refused{"a |", 3}, refused{"a | # b", 7}, refused{"!", 1}, refused{"a && ! ", 7})
}

func TestBraces(t *testing.T) {
	parses(t,
		src{"{ a; }", "call('a')"}, src{"{ }", "nop()"}, src{"{\na\n}", "call('a')"}, src{"{ { a; } }", "call('a')"}, src{"{a", "call('{a')"}, src{"a { }", "call('a' '{' '}')"}, src{"'{' a }", "call('{' 'a' '}')"}, src{`\{`, "call('{')"},
		src{"{ a; }>f", "redir2('f' call('a'))"}, src{"{ a; } <f >>g <<<h", "redir1('f' redir3('g' here('h' call('a'))))"},
		src{"{ a; } && b", "and(call('a') call('b'))"},
	)
	refuses(t, api.ErrForm, refused{"}", 0}, refused{"{ a; } b", 7}, refused{"{ a; } }", 7}, refused{"{ a; } { b; }", 7}, refused{"{ a; } >f b", 10}, refused{"{ a; } x=1", 7}, refused{"{ a; )", 5}, refused{"{ a;; }", 3}, refused{"{ a; fi", 5}, refused{"{ a; }(", 6}, refused{"{(", 1}, refused{"{ ( }", 2})
	refuses(t, api.ErrEnd, refused{"{", 1}, refused{"{ a }", 5}, refused{"{ a; '}'", 8}, refused{"{ }}", 4}, refused{"{ a;\\}", 6})
}

func TestIf(t *testing.T) {
	parses(t,
		src{"if a; then b; fi", "if(call('a') call('b') nop())"}, src{"if a\nthen b\nelse c\nfi", "if(call('a') call('b') call('c'))"},
		src{"if then else fi", "if(nop() nop() nop())"}, src{"if then fi", "if(nop() nop() nop())"}, src{"if { a; } then { b; } else { c; } fi", "if(call('a') call('b') call('c'))"},
		src{"if a fi; b; then fi", "if(seq(call('a' 'fi') call('b')) nop() nop())"}, src{"if a && b | c; then ; fi", "if(and(call('a') pipe(call('b') call('c'))) nop() nop())"},
		src{"if if a; then b; fi then c; fi >f >g", "redir2('f' redir2('g' if(if(call('a') call('b') nop()) call('c') nop())))"},
		src{"if a; then if b; then c; else d; fi; fi", "if(call('a') if(call('b') call('c') call('d')) nop())"},
		src{"'if' a", "call('if' 'a')"}, src{"if=1", "set:if('1')"}, src{"a if then", "call('a' 'if' 'then')"}, src{"iffy", "call('iffy')"},
	)
	refuses(t, api.ErrForm,
		refused{"then", 0}, refused{"else", 0}, refused{"if a; fi", 6}, refused{"if a; else", 6}, refused{"if a; do", 6}, refused{"if a; )", 6}, refused{"if a ;; then", 5}, refused{"if a; then b; else c; else d; fi", 22}, refused{"if a; then b; then", 14}, refused{"if a; then b; done", 14}, refused{"if a; then b; fi c", 17}, refused{"if a; then b; fi(", 16}, refused{"if ( a", 3}, refused{"if { a; } b; then", 10},
	)
	refuses(t, api.ErrEnd, refused{"if", 2}, refused{"if a; then", 10}, refused{"if a; then b fi", 15}, refused{"if a; then b; else", 18}, refused{"if a; then b; else c; 'fi'", 26}, refused{"if then", 7}, refused{"if a; \"then\" b", 14})
}

func TestWhile(t *testing.T) {
	parses(t,
		src{"while a; do b; done", "while(call('a') call('b'))"}, src{"while do done", "while(nop() nop())"}, src{"while a\ndo b\nc\ndone>f", "redir2('f' while(call('a') seq(call('b') call('c'))))"},
		src{"while { a; } do { b; } done | c", "pipe(while(call('a') call('b')) call('c'))"}, src{"while a do; do b done; done", "while(call('a' 'do') call('b' 'done'))"},
	)
	refuses(t, api.ErrForm, refused{"do", 0}, refused{"done", 0}, refused{"while a; done", 9}, refused{"while a; then", 9}, refused{"while a; do b; do", 15}, refused{"while a; do b; fi", 15}, refused{"while a; do done b", 17}, refused{"while )", 6})
	refuses(t, api.ErrEnd, refused{"while", 5}, refused{"while a", 7}, refused{"while a do", 10}, refused{"while a; do b", 13}, refused{"while a; do b done", 18})
}

func TestFor(t *testing.T) {
	parses(t,
		src{"for i in a b; do c; done", "for:i(cat('a' 'b') call('c'))"}, src{"for i in a\ndo c\ndone", "for:i('a' call('c'))"}, src{"for i in\ndo done", "for:i(cat() nop())"},
		src{"for i in ; \n;\n do done", "for:i(cat() nop())"}, src{"for i in $x *; do a; done >f", "redir2('f' for:i(cat(glob(split($x)) glob(~*~)) call('a')))"},
		src{"for i in \"$x\"; do done", "for:i(flat($x) nop())"}, src{"for i in x=1 y=2; do done", "for:i(cat('x=1' 'y=2') nop())"},
		src{"for i in do; do done", "for:i('do' nop())"}, src{"for do in do do\ndo do=1\ndone", "for:do(cat('do' 'do') set:do('1'))"}, src{"for i in done if; do done", "for:i(cat('done' 'if') nop())"},
		src{"for for in for; do for for in in; do done; done", "for:for('for' for:for('in' nop()))"}, src{"for abcdefghijklmnopqrst in; do done", "for:abcdefghijklmnopqrst(cat() nop())"},
		src{"for _1 in $(a) b; do done", "for:_1(cat(glob(split(sub(call('a')))) 'b') nop())"},
	)
	refuses(t, api.ErrForm,
		refused{"for ; in", 4}, refused{"for\ni in", 3}, refused{"for 1 in", 4}, refused{"for 'i' in a", 4}, refused{"for i\"\" in a", 4}, refused{"for $i in a", 4}, refused{"for i* in", 4}, refused{"for ! in", 4}, refused{"for abcdefghijklmnopqrstu in; do", 4}, refused{"for $(fi) in", 4},
		refused{"for i do", 6}, refused{"for i ; do", 6}, refused{"for i\nin a", 5}, refused{"for i 'in' a", 6}, refused{"for i In a", 6}, refused{"for i $(fi)", 6},
		refused{"for i in a > b", 11}, refused{"for i in a | b", 11}, refused{"for i in (a)", 9}, refused{"for i in a; b", 12}, refused{"for i in a; 'do' b", 12}, refused{"for i in a;; do", 10}, refused{"for i in a\nthen", 11}, refused{"for i in a; do b; fi", 18}, refused{"for i in a; do b; done c", 23}, refused{"for i in a; $(fi)", 12}, refused{"for i in $(fi) >", 11},
	)
	refuses(t, api.ErrEnd, refused{"for", 3}, refused{"for i", 5}, refused{"for i in", 8}, refused{"for i in a do b done", 20}, refused{"for i in a;", 11}, refused{"for i in a; do", 14}, refused{"for i in a; do b done", 21})
}

func TestCase(t *testing.T) {
	parses(t,
		src{"case a in esac", "case('a')"}, src{"case a\n\nin\n\nesac", "case('a')"}, src{"case a in b) c;; esac", "case('a' ~b~ call('c'))"}, src{"case a in (b) c;; esac", "case('a' ~b~ call('c'))"},
		src{"case a in b) c; esac", "case('a' ~b~ call('c'))"}, src{"case a in b)\nc\nesac", "case('a' ~b~ call('c'))"}, src{"case a in b) esac", "case('a' ~b~ nop())"}, src{"case a in b);;\n\nc);;(d)\n;;esac", "case('a' ~b~ nop() ~c~ nop() ~d~ nop())"},
		src{"case a in b) c;d\ne;;esac >f <g", "redir2('f' redir1('g' case('a' ~b~ seq(call('c') call('d') call('e')))))"},
		src{"case $x in $x) ;; \"$x\") ;; esac", "case(flat($x) flat($x) nop() esc(flat($x)) nop())"}, src{"case \"a\"* in *) ;; '*') ;; esac", `case('a*' ~*~ nop() ~\*~ nop())`},
		src{"case in in in) in=1;; esac", "case('in' ~in~ set:in('1'))"}, src{"case esac in (esac) a;; esac", "case('esac' ~esac~ call('a'))"}, src{"case a in 'esac') a;; esac", "case('a' ~esac~ call('a'))"},
		src{"case a in b) c esac;; esac", "case('a' ~b~ call('c' 'esac'))"}, src{"case a in fi) b;; do) c;; esac", "case('a' ~fi~ call('b') ~do~ call('c'))"}, src{"case a in !) ;; {) ;; esac", "case('a' ~!~ nop() ~{~ nop())"},
		src{"case a in x=1) ;; esac", "case('a' ~x=1~ nop())"}, src{"case a in b) case c in d) e;; esac;; f) g; esac", "case('a' ~b~ case('c' ~d~ call('e')) ~f~ call('g'))"},
		src{"case $(a) in $(b)) c;; esac", "case(sub(call('a')) sub(call('b')) call('c'))"},
	)
	refuses(t, api.ErrForm,
		refused{"esac", 0}, refused{"in", 0}, refused{"a; in", 3}, refused{";;", 0}, refused{"a;;", 1}, refused{"case ; in", 5}, refused{"case\na in", 4}, refused{"case > in", 5}, refused{"case a; in", 6}, refused{"case a b", 7}, refused{"case a 'in'", 7}, refused{"case a\n\nof", 8}, refused{"case a $(fi)", 7},
		refused{"case a in ;", 10}, refused{"case a in ;;", 10}, refused{"case a in )", 10}, refused{"case a in ()", 11}, refused{"case a in (\nb)", 11}, refused{"case a in b c", 12}, refused{"case a in b\n)", 11}, refused{"case a in b;", 11}, refused{"case a in b|c)", 11}, refused{"case a in esac)", 14}, refused{"case a in esac b", 15},
		refused{"case a in b) c d) e", 16}, refused{"case a in b) c; d) e", 17}, refused{"case a in b) c;;;; esac", 16}, refused{"case a in b) c;; ; esac", 17}, refused{"case a in b) c;; ) d", 17}, refused{"case a in b) && c", 13}, refused{"case a in b) ( c", 13}, refused{"case a in b) c; (d) e;; esac", 16}, refused{"case a in b) c (d) e;; esac", 16},
	)
	refuses(t, api.ErrEnd, refused{"case", 4}, refused{"case a", 6}, refused{"case a\n", 7}, refused{"case a in", 9}, refused{"case a in\n", 10}, refused{"case a in b", 11}, refused{"case a in (", 11}, refused{"case a in b)", 12}, refused{"case a in b) c esac", 19}, refused{"case a in b) c;;", 16}, refused{"case a in 'esac'", 16})
}

// A `;;` may be left out: what does not go on a list is the next pattern, by the
// grammar as it is written.
func TestPatternsWithoutTheirEnds(t *testing.T) {
	parses(t,
		src{"case a in b) { c; } d) e; esac", "case('a' ~b~ call('c') ~d~ call('e'))"}, src{"case a in b) c x (d) e; esac", "case('a' ~b~ call('c' 'x') ~d~ call('e'))"},
		src{"case a in b) c; fi) d; esac", "case('a' ~b~ call('c') ~fi~ call('d'))"}, src{"case a in b) done) d; esac", "case('a' ~b~ nop() ~done~ call('d'))"},
	)
}

func TestFunctions(t *testing.T) {
	parses(t,
		src{"f() { a; }", "fun:f(call('a'))"}, src{"f ( )\n\n{\na\n}", "fun:f(call('a'))"}, src{"f(){ }", "fun:f(nop())"}, src{"f() { a; } | b", "pipe(fun:f(call('a')) call('b'))"}, src{"! f() { a; } && g() { b; }", "and(not(fun:f(call('a'))) fun:g(call('b')))"},
		src{"f() { g() { a; }; }", "fun:f(fun:g(call('a')))"}, src{"abcdefghijklmnopqrst() { }", "fun:abcdefghijklmnopqrst(nop())"}, src{"_() { }; f", "seq(fun:_(nop()) call('f'))"},
	)
	refuses(t, api.ErrForm,
		refused{"f(a) {", 2}, refused{"f(\n) {", 2}, refused{"f((", 2}, refused{"f() a", 4}, refused{"f(); {", 3}, refused{"f() if a", 4}, refused{"f() '{' a", 4}, refused{"f() { a; } >b", 11}, refused{"f() { a; } b", 11}, refused{"f() { a; )", 9}, refused{"f() ( a )", 4},
		refused{"x=1 f()", 5}, refused{">x f()", 4}, refused{"a f()", 3}, refused{"1f()", 2}, refused{"'f'()", 3}, refused{"f*()", 2}, refused{"f''()", 3}, refused{"$f()", 2}, refused{"x=1()", 3}, refused{"abcdefghijklmnopqrstu() { }", 21},
		refused{"in() { a; }", 0}, refused{"fi() { a; }", 0}, refused{"done()", 0}, refused{"if() { a; }", 2}, refused{"while()", 5}, refused{"for() {", 3}, refused{"case()", 4}, refused{"()", 0}, refused{"(a)", 0},
	)
	refuses(t, api.ErrEnd, refused{"f(", 2}, refused{"f()", 3}, refused{"f()\n", 4}, refused{"f() {", 5}, refused{"f() { a }", 9}, refused{"a (", 3})
}

func TestSettings(t *testing.T) {
	parses(t,
		src{"x=1", "set:x('1')"}, src{"x=", "set:x('')"}, src{"x==", "set:x('=')"}, src{"x=a=b", "set:x('a=b')"}, src{"x=1 y=2 z=3", "seq(set:x('1') set:y('2') set:z('3'))"}, src{"x=1;y=2", "seq(set:x('1') set:y('2'))"},
		src{"x=1 a", "local:x('1' call('a'))"}, src{"x=1 y=2 a b", "local:x('1' local:y('2' call('a' 'b')))"}, src{"x=1 x=2 a", "local:x('1' local:x('2' call('a')))"}, src{"a x=1", "call('a' 'x=1')"}, src{"x=1 a y=2", "local:x('1' call('a' 'y=2'))"},
		src{"x=$y", "set:x(flat($y))"}, src{"x=$y*", "set:x(join(flat($y) '*'))"}, src{"x=*", "set:x('*')"}, src{"x='a b'\"$y\"c", "set:x(join('a b' flat($y) 'c'))"}, src{"x=''", "set:x('')"}, src{"x=$*", "set:x(flat($*))"}, src{"x=$(y=$z)", "set:x(sub(set:y(flat($z))))"}, src{`x=\ `, "set:x(' ')"}, src{"x= a", "local:x('' call('a'))"},
		src{"1=a", "call('1=a')"}, src{"=a", "call('=a')"}, src{"x$y=1", "call(glob(split(join(~x~ $y ~=1~))))"}, src{"'x'=1", "call('x=1')"}, src{`x\=1`, "call('x=1')"}, src{"\"\"x=1", "call('x=1')"}, src{"x'='1", "call('x=1')"}, src{"x-y=1", "call('x-y=1')"}, src{"x*=1", "call(glob(~x*=1~))"}, src{"$x=1", "call(glob(split(join($x ~=1~))))"},
		src{"abcdefghijklmnopqrst=1", "set:abcdefghijklmnopqrst('1')"}, src{"abcdefghijklmnopqrstu=1", "call('abcdefghijklmnopqrstu=1')"}, src{"do=1 in=2 if", "local:do('1' local:in('2' call('if')))"}, src{"_=1", "set:_('1')"}, src{"x=1 ''", "local:x('1' call(''))"},
	)
}

func TestTurns(t *testing.T) {
	parses(t,
		src{"a<f", "redir1('f' call('a'))"}, src{"a>f", "redir2('f' call('a'))"}, src{"a>>f", "redir3('f' call('a'))"}, src{"a<<<f", "here('f' call('a'))"}, src{">f", "redir2('f' nop())"}, src{"<f >g", "redir1('f' redir2('g' nop()))"},
		src{">f a >g b <h", "redir2('f' redir2('g' redir1('h' call('a' 'b'))))"}, src{">f x=1 <g y=2 a", "redir2('f' redir1('g' local:x('1' local:y('2' call('a')))))"}, src{"x=1 >f", "redir2('f' set:x('1'))"}, src{"x=1 >f y=2", "redir2('f' seq(set:x('1') set:y('2')))"},
		src{"a >$x", "redir2(flat($x) call('a'))"}, src{"a >*", "redir2('*' call('a'))"}, src{"a >'b c'$1", "redir2(join('b c' flat(pick1($*))) call('a'))"}, src{"a <<<$(b)", "here(sub(call('b')) call('a'))"}, src{"a >x=1 y", "redir2('x=1' call('a' 'y'))"}, src{"a >fi", "redir2('fi' call('a'))"},
		src{">f fi", "redir2('f' call('fi'))"}, src{">f if a; b", "seq(redir2('f' call('if' 'a')) call('b'))"}, src{"<f !", "redir1('f' call('!'))"}, src{"a >f | b <g", "pipe(redir2('f' call('a')) redir1('g' call('b')))"}, src{"! a >f", "not(redir2('f' call('a')))"}, src{"a >f && b", "and(redir2('f' call('a')) call('b'))"},
	)
	refuses(t, api.ErrForm, refused{"a > ;", 4}, refused{"a >\nb", 3}, refused{"a > > b", 4}, refused{"a << b", 3}, refused{"a >>> b", 4}, refused{"> | a", 2}, refused{"a <(b)", 3}, refused{"a >f(", 4}, refused{"{ a; } > )", 9})
	refuses(t, api.ErrEnd, refused{"a >", 3}, refused{"<", 1}, refused{">>", 2}, refused{"a <<< ", 6}, refused{"{ a; } >", 8})
}

func TestCalls(t *testing.T) {
	parses(t,
		src{"a b c", "call('a' 'b' 'c')"}, src{"$x", "call(glob(split($x)))"}, src{"''", "call('')"}, src{"\"\"", "call('')"}, src{"*", "call(glob(~*~))"}, src{"a if then else fi while do done for in case esac { } !", "call('a' 'if' 'then' 'else' 'fi' 'while' 'do' 'done' 'for' 'in' 'case' 'esac' '{' '}' '!')"},
		src{"i'f' a", "call('if' 'a')"}, src{`\fi`, "call('fi')"}, src{"\"\"done", "call('done')"}, src{"{}", "call('{}')"}, src{"}}", "call('}}')"}, src{"!!", "call('!!')"}, src{"Fi", "call('Fi')"}, src{"$", "call('$')"}, src{`\`, `call('\')`},
	)
	refuses(t, api.ErrForm, refused{"a )", 2}, refused{"a b (", 4}, refused{")", 0}, refused{"(", 0}, refused{"a; (b)", 3}, refused{"a\n)", 2}, refused{";;", 0}, refused{"a ;; b", 2})
}

func TestKey(t *testing.T) {
	keys := strings.Fields("if then else fi while do done for in case esac { } !")
	for i, key := range keys {
		if !Key(key) {
			t.Errorf("Key(%q): false", key)
		}
		for _, s := range []string{key + " ", " " + key, key + key, key[:len(key)-1], key + keys[(i+1)%len(keys)], "'" + key + "'", key + "\x00"} {
			if Key(s) {
				t.Errorf("Key(%q): true", s)
			}
		}
		if up := strings.ToUpper(key); up != key && Key(up) {
			t.Errorf("Key(%q): true", up)
		}
	}
	for _, s := range []string{"", " ", "elif", "until", "select", "function", "switch", "fn", "(", ")", "[", "]", ";", ";;", "&&", "|", "\n", "a"} {
		if Key(s) {
			t.Errorf("Key(%q): true", s)
		}
	}
}
