package cparse

import (
	"reflect"
	"slices"
	"strings"
	"testing"

	"patois/api"
	"patois/core"
	"patois/cscan"
)

// word is the word of a source that is nothing else.
func word(t *testing.T, s string) cscan.Word {
	t.Helper()
	l, err := cscan.Scan(s)
	if err != nil || len(l) != 1 || len(l[0].Words) != 1 {
		t.Fatalf("%q is no word: %v", s, err)
	}
	return l[0].Words[0]
}

// said is what is told of a tree, or of the error.
func said(l []api.Node, err error) string {
	if err != nil {
		return err.Error()
	}
	return told(l)
}

// A word's value, by itself and in each place of a source.
func TestValues(t *testing.T) {
	for _, x := range []src{
		{"a", "'a'"}, {"{a b}", "'a b'"}, {"{}", "''"}, {`""`, "''"}, {`"a b"`, "'a b'"}, {`a\ b\n`, "'a b\n'"}, {`{a\n$x}`, `'a\n$x'`}, {"a*", "'a*'"}, {"$", "'$'"}, {"\x00\xff", "'\x00\xff'"}, {"{[}", "'['"}, {`"#;"`, "'#;'"},
		{"$x", "flat($x)"}, {`"$x"`, "flat($x)"}, {"$*", "flat($*)"}, {"$1", "flat(pick1($*))"}, {"$9", "flat(pick9($*))"}, {"$12", "join(flat(pick1($*)) '2')"}, {"$0", "'$0'"},
		{"[a]", "sub(call('a'))"}, {"[]", "sub(nop())"}, {"[ ;\n]", "sub(nop())"}, {"[a;b]", "sub(seq(call('a') call('b')))"}, {"[set x 1]", "sub(set:x('1'))"}, {"[a [b $x]]", "sub(call('a' sub(call('b' flat($x)))))"}, {`"[a "b c"]"`, "sub(call('a' 'b c'))"}, {"[a {]}]", "sub(call('a' ']'))"}, {`[a \]]`, "sub(call('a' ']'))"}, {"[#a\nb]", "sub(call('b'))"}, {`[a\n]`, "sub(call('a\n'))"},
		{"a$x", "join('a' flat($x))"}, {"$x.c", "join(flat($x) '.c')"}, {"$x$y", "join(flat($x) flat($y))"}, {"$x[a]b", "join(flat($x) sub(call('a')) 'b')"}, {"[a][b]", "join(sub(call('a')) sub(call('b')))"}, {`"a $1 [b] $*"`, "join('a ' flat(pick1($*)) ' ' sub(call('b')) ' ' flat($*))"}, {"a{b}$x", "join('a{b}' flat($x))"}, {`$x""`, `join(flat($x) '""')`},
	} {
		if got := said(Value(word(t, x[0]))); got != x[1] {
			t.Errorf("Value of %q: %s; not %s", x[0], got, x[1])
		}
		p := "eval(" + x[1] + ")"
		parses(t,
			src{"b " + x[0], "call('b' " + x[1] + ")"}, src{"set y " + x[0], "set:y(" + x[1] + ")"}, src{"eval " + x[0], p}, src{"not " + x[0], "not(" + p + ")"},
			src{"foreach i " + x[0] + " " + x[0], "for:i(plain(split(" + x[1] + ")) " + p + ")"}, src{"local i " + x[0] + " " + x[0], "local:i(" + x[1] + " " + p + ")"}, src{"proc f " + x[0], "fun:f(" + p + ")"},
			src{"pipe " + x[0] + " b " + x[0], "pipe(" + p + " eval('b') " + p + ")"}, src{"onto " + x[0] + " " + x[0], "redir3(" + x[1] + " " + p + ")"}, src{"with " + x[0] + " " + x[0], "here(" + x[1] + " " + p + ")"},
			src{"match " + x[0] + " " + x[0] + " " + x[0], "case(" + x[1] + " " + x[1] + " " + p + ")"}, src{"if " + x[0] + " " + x[0], "if(" + p + " " + p + " nop())"}, src{"b [c " + x[0] + "]", "call('b' sub(call('c' " + x[1] + ")))"},
		)
	}
}

// The errors of a word by itself have the places of its source.
func TestValuesWithErrors(t *testing.T) {
	longName := "$" + strings.Repeat("n", api.MaxName+1)
	source := `a; "$x[set x]" b[c {d}e][set] [a {b}] ["c] [a [b [if]]] [` + longName + `] [a [set $y 1]]`
	scanned, err := cscan.Scan(source)
	if err != nil {
		t.Fatal(err)
	}
	for i, want := range []struct {
		at  string
		err error
	}{{"set x", api.ErrForm}, {"e]", api.ErrToken}, {}, {`"c`, api.ErrQuote}, {"if", api.ErrForm}, {longName, api.ErrName}, {"$y", api.ErrForm}} {
		l, err := Value(scanned[1].Words[i])
		if want.err == nil && err != nil || want.err != nil && (!isAt(err, strings.Index(source, want.at), want.err) || len(l) > 0) {
			t.Errorf("word %d: %s, %v; not at %q: %v", i, told(l), err, want.at, want.err)
		}
	}
}

// Words that no scan makes are read part by part all the same.
func TestValuesOfOtherWords(t *testing.T) {
	for _, x := range []struct {
		w    cscan.Word
		want string
	}{
		{cscan.Word{}, "''"}, {cscan.Word{At: 7, Braced: true}, "''"}, {cscan.Word{Parts: []cscan.Part{{}}}, "''"}, {cscan.Word{Parts: []cscan.Part{{Kind: 5, S: "a"}, {Kind: -1}, {Kind: cscan.PText, S: "b"}}}, "'b'"},
		{cscan.Word{Parts: []cscan.Part{{Kind: cscan.PText, S: "a"}, {Kind: cscan.PText, S: "b"}}}, "join('a' 'b')"},
		{cscan.Word{Parts: []cscan.Part{{Kind: cscan.PSub, At: 40, S: "a [set]"}}}, "44: " + api.ErrForm.Error()},
		{cscan.Word{At: 9, Braced: true, Parts: []cscan.Part{{Kind: cscan.PSub, At: 40, S: "a]"}, {Kind: cscan.PVar, At: 3, S: "x"}}}, "join(sub(call('a]')) flat($x))"},
		{cscan.Word{Parts: []cscan.Part{{Kind: cscan.PSub, At: 40, S: "a ["}}}, "43: " + api.ErrParen.Error()},
		{cscan.Word{Parts: []cscan.Part{{Kind: cscan.PSub, At: 40, S: strings.Repeat(" ", api.MaxSource+1)}}}, api.ErrLong.Error()},
	} {
		if got := said(Value(x.w)); got != x.want {
			t.Errorf("Value(%v): %s; not %s", x.w, got, x.want)
		}
	}
}

// A word's Lits go up to MaxString bytes each; what is wrong in its brackets
// goes ahead.
func TestLongWords(t *testing.T) {
	full := strings.Repeat("a", api.MaxString)
	long := "9: " + api.ErrLong.Error()
	for _, x := range []struct {
		s    string
		long bool
	}{
		{full, false}, {full + "a", true}, {"{" + full + "}", false}, {"{" + full + "a}", true}, {`"` + full + `"`, false}, {`"` + full + ` "`, true}, {`\a` + full[1:], false}, {`\a` + full, true}, {`{\` + full + "}", true},
		{full + "$1" + full, false}, {full + "$1" + full + "a", true}, {full + "[b]" + full, false}, {full + "[b]a" + full, true}, {"a" + full + "[b]", true},
		{"[b " + full + "]", false}, {"[b " + full + "]" + full, false}, {`[b {` + full + "} " + full + "]", false}, {"[" + full + "; " + full + "]", false},
	} {
		w := word(t, x.s)
		w.At = 9
		if got := said(Value(w)); (got == long) != x.long {
			t.Errorf("%.20q.. of %d bytes: %.40s", x.s, len(x.s), got)
		}
	}
	refuses(t, api.ErrLong,
		refused{"a" + full, 0}, refused{"b a" + full, 2}, refused{"b;c {a" + full + "}", 4}, refused{"set a" + full + " 1", 4}, refused{"set 1 2 a" + full, 8}, refused{"set a" + full, 4}, refused{"foreach $x b c d a" + full, 17}, refused{"b $x[c]a" + full, 2}, refused{"b \"c$1" + full + "a\"", 2},
		refused{"b [c a" + full + "]", 5}, refused{"b [c [d {a" + full + "}]]", 8}, refused{"b [c a" + full + "]a" + full, 5}, refused{"b a" + full + "; set", 2},
	)
	refuses(t, api.ErrForm, refused{"b a" + full + "[set]", 2004}, refused{"b [set]a" + full, 3}, refused{"set; b a" + full, 0}, refused{"b [set a" + full[1:] + "]", 3})
	refuses(t, api.ErrToken, refused{"b a" + full + " {c}d", 2007}, refused{"b a" + full + "[{c}d]", 2007})
	for _, s := range []string{full, "set x " + full, "b [c " + full + "]" + full, "eval {" + full + "}"} {
		if _, err := Parse(s); err != nil {
			t.Errorf("%.20q..: %v", s, err)
		}
	}
}

// What is handed in stays as it is, behind its length too, and what is handed
// out is nobody else's.
func TestMemory(t *testing.T) {
	parts := []cscan.Part{{Kind: cscan.PText, S: "a"}, {Kind: cscan.PSub, S: "b $x"}, {Kind: cscan.PVar, S: "c"}, {Kind: 99, S: "behind"}}
	before := slices.Clone(parts)
	for n := range len(parts) {
		w := cscan.Word{Parts: parts[:n]}
		one, _ := Value(w)
		two, _ := Value(w)
		isNew(t, one, two)
	}
	if !reflect.DeepEqual(parts, before) {
		t.Errorf("the parts: %v", parts)
	}
	for _, s := range []string{"", "a", "a [b]$x; pipe {c} d", "if a b", "match a b c"} {
		one, _ := Parse(s)
		two, _ := Parse(s)
		isNew(t, one, two)
	}
}

// isNew checks that two lists alike do not show what is written into one.
func isNew(t *testing.T, one, two []api.Node) {
	t.Helper()
	if !core.Same(one, two) || len(one) == 0 {
		t.Fatalf("%s, %s", told(one), told(two))
	}
	before := slices.Clone(two)
	all := one[:cap(one)]
	for i := range all {
		all[i] = api.Node{Kind: -1}
	}
	if !core.Same(two, before) {
		t.Errorf("%s became %s", told(before), told(two))
	}
}
