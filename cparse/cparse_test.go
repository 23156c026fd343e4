package cparse

import (
	"errors"
	"fmt"
	"strings"
	"testing"

	"patois/api"
	"patois/core"
	"patois/run"
	"patois/spell"
)

// told is a tree as text: a Lit as 'a', a variable as $a, all else by its kind,
// N and S, with its children between brackets.
func told(l []api.Node) string {
	if len(l) == 0 {
		return ""
	}
	n := l[0]
	switch {
	case n.Kind == api.Lit && n.N == 0:
		return "'" + n.S + "'"
	case n.Kind == api.Var:
		return "$" + n.S
	}
	s := spell.Kind(n.Kind)
	if n.N != 0 {
		s += fmt.Sprint(n.N)
	}
	if n.S != "" {
		s += ":" + n.S
	}
	var kids []string
	for _, kid := range core.Kids(l) {
		kids = append(kids, told(kid))
	}
	return s + "(" + strings.Join(kids, " ") + ")"
}

// src is a source, and what is told of its program.
type src [2]string

// parses checks the programs of sources, each of which may be.
func parses(t *testing.T, sources ...src) {
	t.Helper()
	for _, x := range sources {
		l, err := Parse(x[0])
		if told(l) != x[1] || err != nil || core.Check(l) != nil {
			t.Errorf("Parse(%.200q): %.400s, %v; not %.400s", x[0], told(l), err, x[1])
		}
	}
}

// refused is a source, and the place of its error.
type refused struct {
	s  string
	at int
}

// refuses checks that sources are refused with that error at their places.
func refuses(t *testing.T, want error, sources ...refused) {
	t.Helper()
	for _, x := range sources {
		l, err := Parse(x.s)
		if !isAt(err, x.at, want) || len(l) > 0 {
			t.Errorf("Parse(%.200q): %.100s, %v; not %d: %v", x.s, told(l), err, x.at, want)
		}
	}
}

// isAt answers whether err is that error around that place.
func isAt(err error, pos int, want error) bool {
	var at *api.At
	return errors.As(err, &at) && err == error(at) && at.Pos == pos && at.Err == want
}

func TestTheExamples(t *testing.T) {
	parses(t,
		src{"set x 1", "set:x('1')"},
		src{"if {eq $x 1} {echo y}", "if(eval('eq $x 1') eval('echo y') nop())"},
		src{"echo [put a]$x", "call('echo' join(sub(call('put' 'a')) flat($x)))"},
		src{`foreach i "a b" {put $i}`, "for:i(plain(split('a b')) eval('put $i'))"},
	)
	refuses(t, api.ErrForm, refused{"set x", 0})
}

func TestCommands(t *testing.T) {
	parses(t,
		src{"", "nop()"}, src{" \t", "nop()"}, src{"\n;;\n", "nop()"}, src{"# set", "nop()"}, src{"#a\n #b", "nop()"},
		src{"a", "call('a')"}, src{" a ;", "call('a')"}, src{"\n;a b\n", "call('a' 'b')"}, src{"a #b", "call('a' '#b')"}, src{"#a\nb", "call('b')"},
		src{"a;b", "seq(call('a') call('b'))"}, src{"a\n\n;b;#c", "seq(call('a') call('b'))"}, src{"a;b c;d", "seq(call('a') call('b' 'c') call('d'))"},
		src{"$x", "call(flat($x))"}, src{"{}", "call('')"}, src{`""`, "call('')"}, src{"[]", "call(sub(nop()))"}, src{"[set x 1]", "call(sub(set:x('1')))"}, src{"[a;b]", "call(sub(seq(call('a') call('b'))))"},
		src{"a $1 {$1 [b]}", "call('a' flat(pick1($*)) '$1 [b]')"},
	)
}

// What stands behind each key, and what becomes of it.
func TestForms(t *testing.T) {
	parses(t,
		src{"set x 1", "set:x('1')"}, src{"set {x} $y", "set:x(flat($y))"}, src{`set "x" a[b]`, "set:x(join('a' sub(call('b'))))"}, src{"set set set", "set:set('set')"},
		src{"if a b", "if(eval('a') eval('b') nop())"}, src{"if a b c", "if(eval('a') eval('b') eval('c'))"}, src{"if $x [b] {}", "if(eval(flat($x)) eval(sub(call('b'))) eval(''))"}, src{"if a else b", "if(eval('a') eval('else') eval('b'))"},
		src{"while a $1", "while(eval('a') eval(flat(pick1($*))))"}, src{"and {a} {b;c}", "and(eval('a') eval('b;c'))"}, src{`or "a$x" b`, "or(eval(join('a' flat($x))) eval('b'))"},
		src{"not a", "not(eval('a'))"}, src{"not {not a}", "not(eval('not a'))"}, src{"eval a", "eval('a')"}, src{"eval $x$y", "eval(join(flat($x) flat($y)))"}, src{"eval {set x}", "eval('set x')"},
		src{"foreach i a b", "for:i(plain(split('a')) eval('b'))"}, src{"foreach {i} $* {}", "for:i(plain(split(flat($*))) eval(''))"}, src{"foreach i $x$y [a]", "for:i(plain(split(join(flat($x) flat($y)))) eval(sub(call('a'))))"},
		src{"proc f a", "fun:f(eval('a'))"}, src{"proc if {b $1}", "fun:if(eval('b $1'))"}, src{"proc f a$x", "fun:f(eval(join('a' flat($x))))"},
		src{"pipe a b", "pipe(eval('a') eval('b'))"}, src{"pipe a b c", "pipe(eval('a') eval('b') eval('c'))"}, src{"pipe a $b [c] {d} e", "pipe(eval('a') eval(flat($b)) eval(sub(call('c'))) eval('d') eval('e'))"},
		src{"from f a", "redir1('f' eval('a'))"}, src{"into $x a", "redir2(flat($x) eval('a'))"}, src{"onto [f].c {a b}", "redir3(join(sub(call('f')) '.c') eval('a b'))"}, src{"with {a b} cat", "here('a b' eval('cat'))"}, src{"with $x $y", "here(flat($x) eval(flat($y)))"},
		src{"local x 1 {a}", "local:x('1' eval('a'))"}, src{"local {_9} $x $y", "local:_9(flat($x) eval(flat($y)))"},
		src{"match a", "case('a')"}, src{"match $x a* b", "case(flat($x) 'a*' eval('b'))"}, src{"match a {b c} d $e [f] g h", "case('a' 'b c' eval('d') flat($e) eval(sub(call('f'))) 'g' eval('h'))"},
	)
}

func TestFormsOfOtherWords(t *testing.T) {
	for key, counts := range map[string][]int{
		"set": {0, 1, 3, 4}, "if": {0, 1, 4, 5}, "while": {0, 1, 3}, "and": {0, 1, 3}, "or": {0, 1, 3}, "not": {0, 2, 3}, "eval": {0, 2, 3}, "foreach": {0, 1, 2, 4}, "proc": {0, 1, 3, 4}, "pipe": {0, 1}, "from": {0, 1, 3}, "into": {0, 1, 3}, "onto": {0, 1, 3}, "with": {0, 1, 3, 4}, "local": {0, 1, 2, 4, 5}, "match": {0, 2, 4, 6},
	} {
		for _, n := range counts {
			s := key + strings.Repeat(" x", n)
			refuses(t, api.ErrForm,
				refused{s, 0}, refused{"a; b\n" + s, 5}, refused{" #a\n \t" + s + ";b", 6}, refused{`"` + key + `"` + strings.Repeat(" {x}", n), 0}, refused{"a [b; " + s + "]", 6}, refused{"a \"$x[" + s + "]\"", 6},
				// The command is refused also where its name is none.
				refused{key + strings.Repeat(" $1", n), 0},
			)
			parses(t, src{"{" + key + "}" + strings.Repeat(" x", n), "call('" + key + "'" + strings.Repeat(" 'x'", n) + ")"})
		}
	}
}

func TestNames(t *testing.T) {
	full := strings.Repeat("n", api.MaxName)
	for form, want := range map[string]string{"set % a": "set:%('a')", "foreach % a b": "for:%(plain(split('a')) eval('b'))", "proc % a": "fun:%(eval('a'))", "local % a b": "local:%('a' eval('b'))"} {
		at := strings.Index(form, "%")
		for _, no := range []string{"1", "a-b", "{}", `""`, "{a b}", `"a "`, "$x", "a$x", "[a]", "$*", "*", "{*}", `"a[]"`, full + "n", "{" + full + "n}", "é", "$", "{{a}}", `a\n`} {
			s := strings.Replace(form, "%", no, 1)
			refuses(t, api.ErrForm, refused{s, at}, refused{"b;" + s, at + 2}, refused{"b [" + s + "]", at + 3})
		}
		for name, is := range map[string]string{"x": "x", "{x}": "x", `"_y1"`: "_y1", `\x`: "x", full: full, "set": "set", "{" + full + "}": full, `"a\b"`: "ab"} {
			parses(t, src{strings.Replace(form, "%", name, 1), strings.Replace(want, "%", is, 1)})
		}
	}
}

var keys = strings.Fields("set if while and or not eval foreach proc pipe from into onto with local match")

func TestKeys(t *testing.T) {
	for _, s := range keys {
		if !Key(s) {
			t.Errorf("%q is no key", s)
		}
		for _, no := range []string{strings.ToUpper(s), s + "s", s[1:], " " + s, s + " ", s[:len(s)-1], "{" + s + "}"} {
			if Key(no) {
				t.Errorf("%q is a key", no)
			}
		}
		// A first word is a key unless it is braced, or is not text alone.
		parses(t, src{"{" + s + "}", "call('" + s + "')"}, src{s + "$1", "call(join('" + s + "' flat(pick1($*))))"}, src{s + "[]", "call(join('" + s + "' sub(nop())))"}, src{"a " + s + " {" + s + "}", "call('a' '" + s + "' '" + s + "')"}, src{s + "x", "call('" + s + "x')"}, src{`"` + s + ` "`, "call('" + s + " ')"}, src{"[put " + s + "]", "call(sub(call('put' '" + s + "')))"})
		refuses(t, api.ErrForm, refused{s, 0}, refused{`"` + s + `"`, 0}, refused{`a;"` + s + `"`, 2})
		if escaped := `\` + s; s[0] != 'n' {
			refuses(t, api.ErrForm, refused{escaped, 0}, refused{`"` + escaped + `"`, 0})
		}
	}
	for _, s := range []string{"", "echo", "set if", "then", "else", "for", "case", "{", "}", "#", "\x00", "switch", "fn", "in", "put"} {
		if Key(s) {
			t.Errorf("%q is a key", s)
		}
	}
	parses(t, src{`\not x`, "call('\not' 'x')"}, src{`n\ot x`, "not(eval('x'))"})
}

// What a source of C does, with its strings parsed when they are asked.
func TestMeanings(t *testing.T) {
	for _, x := range [][2]string{
		{"set x {put hi}; eval $x", "hi"}, {"proc f {put $2-$1}; f a {b c}", "b c-a"}, {"foreach i {a b  c} {put <$i>}", "<a><b><c>"}, {"foreach i {a\\ b c} {put <$i>}", "<a b><c>"},
		{"if {eq a b} {put y} {put n}; if {eq a a} {put y}", "ny"}, {"set n 0; while {less $n 3} {put $n; set n [add $n 1]}", "012"},
		{"match b.c *.h {put h} ?.c {put c} * {put o}", "c"}, {"pipe {echo a} {cat; put b}", "a\nb"}, {"with {x\ny} {read v; put $v-; cat}", "x-y"}, {"into f {put a}; onto f {put b}; from f cat", "ab"},
		{"set x 1; local x 2 {put $x}; put $x", "21"}, {"and true {put a}; or true {put b}; or {not true} {put c}", "ac"}, {"put [put [put a]b]c", "abc"}, {"eval {set x}; put $x", ""},
	} {
		l, err := Parse(x[0])
		if err != nil {
			t.Fatalf("%q: %v", x[0], err)
		}
		o := run.Defaults()
		o.Parse = Parse
		r, err := run.Run(l, api.World{}, o)
		said := ""
		for _, e := range r.Trace {
			if e.Kind == api.Write && e.A == "" {
				said += e.B
			}
		}
		if said != x[1] || err != nil || r.Err != nil {
			t.Errorf("%q says %q, %v, %v; not %q", x[0], said, err, r.Err, x[1])
		}
	}
}
