package aparse

import (
	"reflect"
	"slices"
	"strings"
	"testing"

	"patois/alex"
	"patois/api"
	"patois/core"
)

// word is the token of a source that is one word.
func word(t *testing.T, s string) alex.Token {
	t.Helper()
	l, err := alex.Lex(s)
	if err != nil || len(l) != 2 || l[0].Kind != alex.TWord {
		t.Fatalf("%q is no word: %v", s, err)
	}
	return l[0]
}

// said is what is told of a tree, or of the error.
func said(l []api.Node, err error) string {
	if err != nil {
		return err.Error()
	}
	return told(l)
}

// read is a word, and what is told of its value, live text and field.
type read [4]string

// reads checks what words are, each by itself and in a source.
func reads(t *testing.T, words ...read) {
	t.Helper()
	for _, x := range words {
		w := word(t, x[0])
		if got := (read{x[0], said(Value(w)), said(Live(w)), said(Field(w))}); got != x {
			t.Errorf("%q: %q; not %q", x[0], got[1:], x[1:])
		}
		parses(t,
			src{"x=" + x[0], "set:x(" + x[1] + ")"}, src{"a <" + x[0], "redir1(" + x[1] + " call('a'))"}, src{"a <<<" + x[0], "here(" + x[1] + " call('a'))"},
			src{"case " + x[0] + " in (" + x[0] + ") a;; esac", "case(" + x[1] + " " + x[2] + " call('a'))"},
			src{"a " + x[0], "call('a' " + x[3] + ")"}, src{"for i in " + x[0] + "; do a; done", "for:i(" + x[3] + " call('a'))"},
		)
	}
}

func TestWordsOfText(t *testing.T) {
	reads(t,
		read{"a", "'a'", "~a~", "'a'"}, read{"''", "''", "~~", "''"}, read{`""`, "''", "~~", "''"}, read{`''""''`, "''", "~~", "''"},
		read{"a''b", "'ab'", "~ab~", "'ab'"}, read{`a"b"'c'\d`, "'abcd'", "~abcd~", "'abcd'"}, read{"a=b", "'a=b'", "~a=b~", "'a=b'"},
		read{"*", "'*'", "~*~", "glob(~*~)"}, read{"a?", "'a?'", "~a?~", "glob(~a?~)"}, read{"'*'", "'*'", `~\*~`, "'*'"}, read{`\?`, "'?'", `~\?~`, "'?'"},
		read{"[a]", "'[a]'", "~[a]~", "glob(~[a]~)"}, read{"[]", "'[]'", "~[]~", "'[]'"}, read{"[", "'['", "~[~", "'['"}, read{"[a", "'[a'", "~[a~", "'[a'"}, read{"]a[", "']a['", "~]a[~", "']a['"}, read{"[]]", "'[]]'", "~[]]~", "glob(~[]]~)"},
		read{"['a']", "'[a]'", "~[a]~", "glob(~[a]~)"}, read{"[a']'", "'[a]'", `~[a\]~`, "'[a]'"}, read{"'['a]", "'[a]'", `~\[a]~`, "'[a]'"}, read{"['*']", "'[*]'", `~[\*]~`, `glob(~[\*]~)`}, read{"[']'", "'[]'", `~[\]~`, "'[]'"}, read{"[']']", "'[]]'", `~[\]]~`, `glob(~[\]]~)`}, read{"['']", "'[]'", "~[]~", "'[]'"},
		read{"*'*'", "'**'", `~*\*~`, `glob(~*\*~)`}, read{"'a b'", "'a b'", `~a\ b~`, "'a b'"}, read{"'a b'*", "'a b*'", `~a\ b*~`, `glob(~a\ b*~)`}, read{`\\`, `'\'`, `~\\~`, `'\'`}, read{`'\'*`, `'\*'`, `~\\*~`, `glob(~\\*~)`}, read{"'\t\n'?", "'\t\n?'", "~\\\t\\\n?~", "glob(~\\\t\\\n?~)"},
		read{"$", "'$'", "~$~", "'$'"}, read{`"$"*`, "'$*'", "~$*~", "glob(~$*~)"}, read{"\xff*", "'\xff*'", "~\xff*~", "glob(~\xff*~)"}, read{"]", "']'", "~]~", "']'"}, read{"']'", "']'", `~\]~`, "']'"},
	)
}

func TestWordsOfDollars(t *testing.T) {
	reads(t,
		read{"$x", "flat($x)", "flat($x)", "glob(split($x))"}, read{"${x}", "flat($x)", "flat($x)", "glob(split($x))"}, read{"$*", "flat($*)", "flat($*)", "glob(split($*))"},
		read{"$1", "flat(pick1($*))", "flat(pick1($*))", "glob(split(pick1($*)))"}, read{"$9", "flat(pick9($*))", "flat(pick9($*))", "glob(split(pick9($*)))"}, read{"$#", "count($*)", "count($*)", "glob(split(count($*)))"}, read{"$(a)", "sub(call('a'))", "sub(call('a'))", "glob(split(sub(call('a'))))"}, read{"$()", "sub(nop())", "sub(nop())", "glob(split(sub(nop())))"},
		read{`"$x"`, "flat($x)", "esc(flat($x))", "flat($x)"}, read{`"$*"`, "flat($*)", "esc(flat($*))", "flat($*)"}, read{`"$1"`, "flat(pick1($*))", "esc(flat(pick1($*)))", "flat(pick1($*))"}, read{`"$#"`, "count($*)", "esc(count($*))", "count($*)"}, read{`"$(a)"`, "sub(call('a'))", "esc(sub(call('a')))", "sub(call('a'))"},
		read{"$x$y", "join(flat($x) flat($y))", "join(flat($x) flat($y))", "glob(split(join($x $y)))"}, read{"$1$#", "join(flat(pick1($*)) count($*))", "join(flat(pick1($*)) count($*))", "glob(split(join(pick1($*) count($*))))"}, read{`"$x$y"`, "join(flat($x) flat($y))", "join(esc(flat($x)) esc(flat($y)))", "join(flat($x) flat($y))"},
		read{`"$x"$y`, "join(flat($x) flat($y))", "join(esc(flat($x)) flat($y))", "glob(split(join(esc(flat($x)) $y)))"}, read{`$(a)"$(b)"`, "join(sub(call('a')) sub(call('b')))", "join(sub(call('a')) esc(sub(call('b'))))", "glob(split(join(sub(call('a')) esc(sub(call('b'))))))"}, read{`"$#"$#"$1"`, "join(count($*) count($*) flat(pick1($*)))", "join(esc(count($*)) count($*) esc(flat(pick1($*))))", "glob(split(join(esc(count($*)) count($*) esc(flat(pick1($*))))))"},
		read{"$(a; $(b $c)d)", "sub(seq(call('a') call(glob(split(join(sub(call('b' glob(split($c)))) ~d~))))))", "sub(seq(call('a') call(glob(split(join(sub(call('b' glob(split($c)))) ~d~))))))", "glob(split(sub(seq(call('a') call(glob(split(join(sub(call('b' glob(split($c)))) ~d~))))))))"},
	)
}

func TestWordsOfBoth(t *testing.T) {
	reads(t,
		read{"a$x", "join('a' flat($x))", "join(~a~ flat($x))", "glob(split(join(~a~ $x)))"}, read{"$x'a'", "join(flat($x) 'a')", "join(flat($x) ~a~)", "glob(split(join($x ~a~)))"}, read{"$x'a b'", "join(flat($x) 'a b')", `join(flat($x) ~a\ b~)`, `glob(split(join($x ~a\ b~)))`},
		read{"''$x", "flat($x)", "flat($x)", "glob(split($x))"}, read{"$x''", "flat($x)", "flat($x)", "glob(split($x))"}, read{"$x''$y", "join(flat($x) flat($y))", "join(flat($x) flat($y))", "glob(split(join($x $y)))"}, read{"''\"$x\"''", "flat($x)", "esc(flat($x))", "flat($x)"},
		read{`a"b$x"'c'd`, "join('ab' flat($x) 'cd')", "join(~ab~ esc(flat($x)) ~cd~)", "join('ab' flat($x) 'cd')"}, read{`" $x "`, "join(' ' flat($x) ' ')", `join(~\ ~ esc(flat($x)) ~\ ~)`, "join(' ' flat($x) ' ')"},
		read{`"$x"*`, "join(flat($x) '*')", "join(esc(flat($x)) ~*~)", "glob(split(join(esc(flat($x)) ~*~)))"}, read{`?"$x"`, "join('?' flat($x))", "join(~?~ esc(flat($x)))", "glob(split(join(~?~ esc(flat($x)))))"}, read{`"$x*"`, "join(flat($x) '*')", `join(esc(flat($x)) ~\*~)`, "join(flat($x) '*')"}, read{`"$x"'?['\*`, "join(flat($x) '?[*')", `join(esc(flat($x)) ~\?\[\*~)`, "join(flat($x) '?[*')"},
		read{`"$x"'a*'?`, "join(flat($x) 'a*?')", `join(esc(flat($x)) ~a\*?~)`, `glob(split(join(esc(flat($x)) ~a\*?~)))`}, read{`"$1"*"$#"`, "join(flat(pick1($*)) '*' count($*))", "join(esc(flat(pick1($*))) ~*~ esc(count($*)))", "glob(split(join(esc(flat(pick1($*))) ~*~ esc(count($*)))))"},
		read{`"$(a)"*`, "join(sub(call('a')) '*')", "join(esc(sub(call('a'))) ~*~)", "glob(split(join(esc(sub(call('a'))) ~*~)))"}, read{"$x*", "join(flat($x) '*')", "join(flat($x) ~*~)", "glob(split(join($x ~*~)))"}, read{`$x\*`, "join(flat($x) '*')", `join(flat($x) ~\*~)`, `glob(split(join($x ~\*~)))`},
	)
}

// A `[` counts whatever follows: what is put between may bring the `]`.
func TestBracketsAroundDollars(t *testing.T) {
	reads(t,
		read{`["$x"]`, "join('[' flat($x) ']')", "join(~[~ esc(flat($x)) ~]~)", "glob(split(join(~[~ esc(flat($x)) ~]~)))"}, read{`"$x"[`, "join(flat($x) '[')", "join(esc(flat($x)) ~[~)", "glob(split(join(esc(flat($x)) ~[~)))"}, read{`["$x"`, "join('[' flat($x))", "join(~[~ esc(flat($x)))", "glob(split(join(~[~ esc(flat($x)))))"},
		read{`"$x"]`, "join(flat($x) ']')", "join(esc(flat($x)) ~]~)", "join(flat($x) ']')"}, read{`"[$x]"`, "join('[' flat($x) ']')", `join(~\[~ esc(flat($x)) ~\]~)`, "join('[' flat($x) ']')"}, read{`"$x"[a]`, "join(flat($x) '[a]')", "join(esc(flat($x)) ~[a]~)", "glob(split(join(esc(flat($x)) ~[a]~)))"},
	)
}

func TestTokensThatAreNoWords(t *testing.T) {
	for _, read := range []func(alex.Token) ([]api.Node, error){Field, Value, Live} {
		for kind := -2; kind < 20; kind++ {
			x := alex.Token{Kind: kind, At: 7, Parts: []alex.Part{{Kind: alex.PSub, At: 9, S: "fi"}}}
			want := api.ErrForm
			pos := 7
			if kind == alex.TWord {
				pos = 11
			}
			if l, err := read(x); !isAt(err, pos, want) || len(l) > 0 {
				t.Errorf("of kind %d: %s, %v", kind, told(l), err)
			}
		}
	}
}

// Words whose tokens were made by hand: of no parts, of parts of no kind, of
// what Lex never makes.
func TestWordsMadeByHand(t *testing.T) {
	for _, x := range []struct {
		parts []alex.Part
		want  [3]string
	}{
		{nil, [3]string{"''", "~~", "''"}}, {[]alex.Part{}, [3]string{"''", "~~", "''"}}, {[]alex.Part{{Kind: alex.PText}}, [3]string{"''", "~~", "''"}},
		{[]alex.Part{{Kind: alex.PText, S: "a"}, {Kind: alex.PText, S: "b"}}, [3]string{"'ab'", "~ab~", "'ab'"}}, {[]alex.Part{{Kind: alex.PText, S: "[a"}, {Kind: alex.PText, S: "]"}}, [3]string{"'[a]'", "~[a]~", "glob(~[a]~)"}},
		{[]alex.Part{{Kind: alex.PText}, {Kind: alex.PVar, S: "x"}, {Kind: alex.PText}}, [3]string{"flat($x)", "flat($x)", "glob(split($x))"}},
		{[]alex.Part{{Kind: 0, S: "a"}, {Kind: 7, S: "b"}, {Kind: -1, S: "c"}}, [3]string{"''", "~~", "''"}}, {[]alex.Part{{Kind: alex.PText, S: "a"}, {Kind: 7, S: "b"}, {Kind: alex.PDead, S: "*"}}, [3]string{"'a*'", `~a\*~`, "'a*'"}},
		{[]alex.Part{{Kind: alex.PText, S: "*", Quoted: true}}, [3]string{"'*'", "~*~", "glob(~*~)"}}, {[]alex.Part{{Kind: alex.PNum, N: 12}}, [3]string{"flat(pick12($*))", "flat(pick12($*))", "glob(split(pick12($*)))"}},
		{[]alex.Part{{Kind: alex.PText, S: "a b"}}, [3]string{"'a b'", "~a b~", "'a b'"}},
	} {
		w := alex.Token{Kind: alex.TWord, Parts: x.parts}
		if got := [3]string{said(Value(w)), said(Live(w)), said(Field(w))}; got != x.want {
			t.Errorf("%+v: %q", x.parts, got)
		}
	}
}

// The errors of a word's brackets stand where the text would, at its part.
func TestErrorsInTheBracketsOfAWord(t *testing.T) {
	for _, x := range []struct {
		parts []alex.Part
		at    int
		want  error
	}{
		{[]alex.Part{{Kind: alex.PSub, At: 5, S: "a; fi"}}, 10, api.ErrForm}, {[]alex.Part{{Kind: alex.PSub, At: 5, S: "a &&"}}, 11, api.ErrEnd}, {[]alex.Part{{Kind: alex.PSub, At: 5, S: "a 'b"}}, 9, api.ErrQuote},
		{[]alex.Part{{Kind: alex.PSub, S: "a $(b $(c"}}, 4, api.ErrParen}, {[]alex.Part{{Kind: alex.PSub, S: "a $(b $(&))", Quoted: true}}, 10, api.ErrToken}, {[]alex.Part{{Kind: alex.PSub, S: "a $(b ${1})"}}, 8, api.ErrName},
		{[]alex.Part{{Kind: alex.PSub, At: 1, S: "a"}, {Kind: alex.PSub, At: 50, S: "fi"}, {Kind: alex.PSub, At: 30, S: "&"}}, 52, api.ErrForm},
		{[]alex.Part{{Kind: alex.PSub, At: 8, S: "fi"}, {Kind: alex.PText, At: 12, S: strings.Repeat("a", api.MaxString+1)}}, 10, api.ErrForm}, {[]alex.Part{{Kind: alex.PText, At: 4, S: strings.Repeat("a", api.MaxString+1)}, {Kind: alex.PSub, At: 3000, S: "fi"}}, 3002, api.ErrForm},
		{[]alex.Part{{Kind: alex.PSub, At: 8, S: "a " + strings.Repeat("b", api.MaxString+1)}}, 12, api.ErrLong},
	} {
		for _, read := range []func(alex.Token) ([]api.Node, error){Field, Value, Live} {
			if l, err := read(alex.Token{Kind: alex.TWord, At: 3, Parts: x.parts}); !isAt(err, x.at, x.want) || len(l) > 0 {
				t.Errorf("%.100q: %v; not %d: %v", x.parts[0].S, err, x.at, x.want)
			}
		}
	}
	long := alex.Token{Kind: alex.TWord, At: 3, Parts: []alex.Part{{Kind: alex.PSub, At: 4, S: strings.Repeat(" ", api.MaxSource+1)}}}
	if l, err := Value(long); err != api.ErrLong || len(l) > 0 {
		t.Error(err)
	}
}

// A word's Lits go up to MaxString bytes, as they are in its tree.
func TestLongWords(t *testing.T) {
	full := strings.Repeat("a", api.MaxString)
	half := strings.Repeat("*", api.MaxString/2)
	long := "9: too long"
	for _, x := range []struct {
		s    string
		long [3]bool // value, live, field
	}{
		{full, [3]bool{}}, {full + "a", [3]bool{true, true, true}}, {"'" + full + "'", [3]bool{}}, {"'" + full + "'a", [3]bool{true, true, true}}, {full + `\a`, [3]bool{true, true, true}}, {"''" + full + `""`, [3]bool{}},
		{"'" + half + "'", [3]bool{}}, {"'" + half + "a'", [3]bool{false, true, false}}, {"'" + half + "'a", [3]bool{false, true, false}}, {"'" + half + "'?", [3]bool{false, true, true}}, {"'" + half[1:] + "'?", [3]bool{}}, {half + half, [3]bool{}},
		{full + "${x}" + full, [3]bool{}}, {full + "${x}" + full + "a", [3]bool{true, true, true}}, {"a" + full + "\"$x\"", [3]bool{true, true, true}}, {"\"" + half + "a$x\"", [3]bool{false, true, false}}, {"'" + half + "a'$x", [3]bool{false, true, true}}, {"'" + half + "a'\"$x\"?", [3]bool{false, true, true}}, {"'" + half + "'$x'" + half + "'", [3]bool{}},
		{"$(a " + full + ")", [3]bool{}}, {"$(a " + full + ")" + full, [3]bool{}}, {"$(a)a" + full, [3]bool{true, true, true}},
	} {
		w := word(t, x.s)
		w.At = 9
		for i, got := range []string{said(Value(w)), said(Live(w)), said(Field(w))} {
			if (got == long) != x.long[i] {
				t.Errorf("%.20q.. of %d bytes: %d: %.40s", x.s, len(x.s), i, got)
			}
		}
	}
	refuses(t, api.ErrLong, refused{"a a" + full, 2}, refused{"b; x=a" + full, 3}, refused{"a >a" + full, 3}, refused{"for i in b a" + full, 11}, refused{"case a" + full, 5}, refused{"case b in (a" + full, 11}, refused{"case a in '" + half + "a'", 10}, refused{"a '" + half + "a'* fi", 2}, refused{"a $(b $(c a" + full + "))", 10})
	for _, s := range []string{"a " + full, "x=" + full, "a >'" + half + half + "'", "for i in '" + half + "a'; do done", "case '" + half + "a' in " + full + ") ;; '" + half + "') ;; esac"} {
		if _, err := Parse(s); err != nil {
			t.Errorf("%.20q..: %v", s, err)
		}
	}
}

// What is handed in stays as it is, behind its length too, and what is handed
// out is nobody else's.
func TestMemory(t *testing.T) {
	parts := []alex.Part{{Kind: alex.PText, S: "x=a"}, {Kind: alex.PSub, S: "b"}, {Kind: alex.PDead, S: "c"}, {Kind: 99, S: "behind"}}
	w := alex.Token{Kind: alex.TWord, Parts: parts[:2]}
	before := slices.Clone(parts)
	for _, read := range []func(alex.Token) ([]api.Node, error){Field, Value, Live} {
		one, _ := read(w)
		two, _ := read(w)
		isNew(t, one, two)
	}
	if !reflect.DeepEqual(parts, before) {
		t.Errorf("the parts: %v", parts)
	}
	one, _ := Parse("x=1 a $(b) >c | d")
	two, _ := Parse("x=1 a $(b) >c | d")
	isNew(t, one, two)
}

// isNew checks that two lists alike do not show what is written into one.
func isNew(t *testing.T, one, two []api.Node) {
	t.Helper()
	if !core.Same(one, two) || len(one) == 0 {
		t.Fatalf("%s, %s", told(one), told(two))
	}
	before := slices.Clone(two)
	all := one[:cap(one)]
	for i := range all {
		all[i] = api.Node{Kind: -1}
	}
	if !core.Same(two, before) {
		t.Errorf("%s became %s", told(before), told(two))
	}
}
