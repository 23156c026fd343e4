package cparse

import (
	"fmt"
	"slices"
	"strings"
	"testing"

	"patois/api"
	"patois/core"
)

// within is what stands ahead of a part, and behind it.
type within [2]string

// nested is s in so many parts.
func nested(w within, times int, s string) string {
	return strings.Repeat(w[0], times) + s + strings.Repeat(w[1], times)
}

// brackets is ways that a bracket stands in another one: bare, quoted, in names
// and behind keys. Each ends with the bracket's own `[`.
var brackets = []within{{"[", "]"}, {"a [", "]"}, {"a b$x[", "]c"}, {`a "[`, `]"`}, {"b;\n[", "]; c"}, {"set x [", "]"}, {"set [", "] 1"}, {"set [", "] 1 2 3"}, {"foreach [", "]"}, {"if a [", "]"}, {"match [", "] [a] b"}, {"pipe [", "]"}}

// ErrNest is told at the first bracket that stands in MaxNest others, whatever
// is in it, and whatever is wrong with the commands that it stands in.
func TestNesting(t *testing.T) {
	for _, w := range brackets {
		place := (api.MaxNest+1)*len(w[0]) - 1
		for _, inner := range []string{"a", "", "set x", "{a}b", `"`, "a [b]", ";", "$" + strings.Repeat("n", api.MaxName+1), strings.Repeat("a", api.MaxString+1)} {
			refuses(t, api.ErrNest, refused{nested(w, api.MaxNest+1, inner), place}, refused{nested(w, api.MaxNest+9, inner), place}, refused{"c; d\n" + nested(w, api.MaxNest+1, inner), place + 5}, refused{nested(w, api.MaxNest+1, inner) + "; set x", place})
		}
		refuses(t, api.ErrToken, refused{nested(w, api.MaxNest, "{a}b"), api.MaxNest*len(w[0]) + 3})
		refuses(t, api.ErrForm, refused{nested(w, api.MaxNest, "b; set x"), api.MaxNest*len(w[0]) + 3})
		refuses(t, api.ErrLong, refused{nested(w, api.MaxNest, "b a"+strings.Repeat("a", api.MaxString)), api.MaxNest*len(w[0]) + 2})
	}
	deep := nested(within{"[", "]"}, api.MaxNest, "a")
	refuses(t, api.ErrNest, refused{"b " + deep + "[" + deep + "]", 2 + len(deep) + api.MaxNest}, refused{"[" + deep + "][set]", api.MaxNest}, refused{"b [" + deep + "] {set}; set", 2 + api.MaxNest})
	refuses(t, api.ErrForm, refused{"[set][" + deep + "]", 1}, refused{"set; [" + deep + "]", 0})
	refuses(t, api.ErrToken, refused{"[" + deep + "] {a}b", len(deep) + 6})
	refuses(t, api.ErrParen, refused{"[" + deep, 0}, refused{strings.Repeat("[", 40), 0})
	// Braces nest nothing: what they hold is text.
	parses(t, src{nested(within{"{", "}"}, 100, "a"), "call('" + nested(within{"{", "}"}, 99, "a") + "')"}, src{"b {" + strings.Repeat("[", 100) + "}", "call('b' '" + strings.Repeat("[", 100) + "')"})
}

// A word by itself stands in no bracket.
func TestNestingOfValues(t *testing.T) {
	for _, times := range []int{1, 14, api.MaxNest} {
		want := nested(within{"sub(call(", "))"}, times, "'a'")
		if got := said(Value(word(t, nested(within{"[", "]"}, times, "a")))); got != want {
			t.Errorf("%d: %s", times, got)
		}
	}
	w := word(t, "$x"+nested(within{"[", "]"}, api.MaxNest+1, "{a}b"))
	if l, err := Value(w); !isAt(err, 2+api.MaxNest, api.ErrNest) || len(l) > 0 {
		t.Errorf("%s, %v", told(l), err)
	}
}

// The program's own bound: ErrNest around 0, behind all errors of the source.
func TestDeepPrograms(t *testing.T) {
	for _, x := range []struct {
		w     within
		inner string
		most  int
		depth int
	}{
		{within{"[", "]"}, "a", 14, 30}, {within{"[", "]"}, "", 14, 29}, {within{"[", "]"}, "$x", 13, 29}, {within{"[", "]"}, "$1", 13, 30}, {within{"b [", "]"}, "a", 14, 30}, {within{"set x [", "]"}, "a", 14, 30}, {within{"eval [", "]"}, "a", 14, 30},
		{within{"a[", "]"}, "a", 9, 29}, {within{"a[", "]"}, "a$x", 8, 28}, {within{"not [", "]"}, "a", 9, 29}, {within{"if a [", "]"}, "a", 9, 29}, {within{"set x b[", "]"}, "eval a", 9, 29}, {within{"foreach i [", "] b"}, "", 7, 29}, {within{"foreach i [", "] b"}, "a", 7, 30},
	} {
		s := nested(x.w, x.most, x.inner)
		if l, err := Parse(s); err != nil || core.Depth(l) != x.depth {
			t.Errorf("%q: depth %d, %v", s, core.Depth(l), err)
		}
		s = nested(x.w, x.most+1, x.inner)
		refuses(t, api.ErrNest, refused{s, 0}, refused{"\n\n" + s, 0}, refused{"b\n" + s + "; c", 0})
		refuses(t, api.ErrForm, refused{s + "; set", len(s) + 2}, refused{nested(x.w, x.most+1, "set"), (x.most + 1) * len(x.w[0])})
	}
	refuses(t, api.ErrNest, refused{nested(within{"[", "]"}, api.MaxNest, ""), 0})
	refuses(t, api.ErrNest, refused{"b;" + nested(within{"[", "]"}, 14, "a"), 0})
}

func TestManyNodes(t *testing.T) {
	// A Seq of calls of one word each: twice as many nodes, and one.
	calls := strings.Repeat("a\n", api.MaxNodes/2-1)
	for _, x := range []struct {
		s     string
		nodes int
	}{{calls, api.MaxNodes - 1}, {calls + "a", api.MaxNodes + 1}, {calls + "set x 1", api.MaxNodes + 1}, {calls[2:] + "a b", api.MaxNodes}, {calls + ";#a", api.MaxNodes - 1}, {"a" + strings.Repeat(" b", api.MaxNodes-2), api.MaxNodes}, {"a" + strings.Repeat(" b", api.MaxNodes-1), api.MaxNodes + 1}, {"pipe" + strings.Repeat(" b", 1499), api.MaxNodes - 1}, {"pipe" + strings.Repeat(" b", 1500), api.MaxNodes + 1}, {"match a" + strings.Repeat(" b c", 999), api.MaxNodes - 1}, {"match a" + strings.Repeat(" b c", 1000), api.MaxNodes + 2}, {"[" + "a" + strings.Repeat(" b", api.MaxNodes-4) + "]", api.MaxNodes}, {"[" + "a" + strings.Repeat(" b", api.MaxNodes-3) + "]", api.MaxNodes + 1}} {
		l, err := Parse(x.s)
		if x.nodes <= api.MaxNodes && (err != nil || len(l) != x.nodes) || x.nodes > api.MaxNodes && (err != api.ErrMany || len(l) > 0) {
			t.Errorf("%.20q..: %d nodes: %d, %v", x.s, x.nodes, len(l), err)
		}
	}
	// ErrMany goes ahead of ErrNest around 0, and all errors of the source ahead
	// of both.
	for _, s := range []string{calls + "a;" + nested(within{"[", "]"}, 20, "a"), nested(within{"[", "]"}, 20, "a") + strings.Repeat(" a", 4000), "a" + strings.Repeat("$x", 4000), strings.Repeat("[]", 4000)} {
		if l, err := Parse(s); err != api.ErrMany || len(l) > 0 {
			t.Errorf("%.20q..: %v", s, err)
		}
	}
	long := strings.Repeat("a\n", 2000)
	refuses(t, api.ErrForm, refused{long + "set", 4000}, refused{long + "set 1 2", 4004}, refused{long + "a [set]", 4003}, refused{"pipe" + strings.Repeat(" b", 2000) + ";pipe a", 4005}, refused{"match" + strings.Repeat(" b", 2000), 0})
	refuses(t, api.ErrLong, refused{long + "a " + strings.Repeat("b", api.MaxString+1), 4002})
	refuses(t, api.ErrToken, refused{long + "{a}b", 4003})
	refuses(t, api.ErrNest, refused{long + nested(within{"[", "]"}, 31, ""), 4030})
}

func TestLongSources(t *testing.T) {
	if l, err := Parse(strings.Repeat(" ", api.MaxSource)); told(l) != "nop()" || err != nil {
		t.Errorf("%s, %v", told(l), err)
	}
	for _, s := range []string{strings.Repeat(" ", api.MaxSource+1), "set" + strings.Repeat(" ", api.MaxSource), "{" + strings.Repeat("[", api.MaxSource), strings.Repeat("[", 1<<20)} {
		if l, err := Parse(s); err != api.ErrLong || len(l) > 0 {
			t.Errorf("%.20q..: %v", s, err)
		}
	}
	refuses(t, api.ErrForm, refused{strings.Repeat(" ", api.MaxSource-3) + "set", api.MaxSource - 3})
	refuses(t, api.ErrParen, refused{strings.Repeat(" ", api.MaxSource-1) + "[", api.MaxSource - 1})
}

// The scan of a text goes ahead of all that is in it; then command by command,
// word by word, bracket by bracket; a command's form behind all of its words.
func TestErrorsInTheirOrder(t *testing.T) {
	long := strings.Repeat("b", api.MaxString+1)
	refuses(t, api.ErrBrace, refused{"set; {a", 5}, refused{"[set] a {b", 8}, refused{long + " {", 2002})
	refuses(t, api.ErrQuote, refused{`set "a`, 4}, refused{`a [set "b] [set c]`, 7}, refused{`a [set; b "c]`, 10}, refused{`a [b "]"] c`, 5})
	refuses(t, api.ErrParen, refused{"set [set x] [b", 12}, refused{"set; [", 5}, refused{`a "b [c {d}e] [f"`, 14})
	refuses(t, api.ErrToken, refused{"set; {a}b", 8}, refused{`a "[set]" "b"c`, 13}, refused{`a "b [c {d}e]"`, 11}, refused{"set [a [b {c}d]] 1 2", 13}, refused{"a [b {c}d] [set]", 8}, refused{"set [b [set; {c}d]]", 16}, refused{"set 1 [{c}d]", 10}, refused{`a "b"c`, 5})
	refuses(t, api.ErrName, refused{"set; a $" + strings.Repeat("n", api.MaxName+1), 7}, refused{"a [set; $" + strings.Repeat("n", api.MaxName+1) + "]", 8})
	refuses(t, api.ErrForm, refused{"set; a [{b}c]", 0}, refused{"set x; a [b {c}d]", 0}, refused{"set [set x] [b {c}d]", 5}, refused{"a [set][{b}c]", 3}, refused{"a [set] [{b}c]", 3}, refused{"set 1; " + long, 0}, refused{"a [b [c; set x; set]]", 9}, refused{"a [set 1 2;set]", 7}, refused{"set $x [a]", 4}, refused{"set $x [a] 1", 0}, refused{"set [a] [set 1 2]", 13}, refused{"[set] " + long, 1})
	refuses(t, api.ErrLong, refused{"a " + long + "; set", 2}, refused{"set 1 " + long, 6}, refused{"a [b]" + long, 2}, refused{"a [b {" + long + "}]", 5}, refused{"a " + long + " [set]", 2}, refused{"set 1 2 " + long, 8}, refused{"a [b " + long + "][{c}d]", 5})
}

// No source makes a call panic: every prefix, and every source with a byte more
// or less, of one with all that there is.
func TestBrokenSources(t *testing.T) {
	whole := "proc f {set x $1; put \"$x\"}\nif {eq [f a] \"b$2 [g {]}]\"} {h} [i $*];foreach {y} \"a b\" [j \\] k];# l\nmatch $x$y a* {m} [n;o]p {};pipe a b c;local z 1 {from f [q]};onto $w with;not a;{set} b"
	if _, err := Parse(whole); err != nil {
		t.Fatal(err)
	}
	for i := range len(whole) {
		rest := whole[i+1:]
		for _, s := range []string{whole[:i], whole[i:], whole[:i] + rest} {
			holds(t, s)
		}
		for _, c := range []string{" ", ";", "\n", "\"", "\\", "$", "[", "]", "{", "}", "#", " set ", ";set 1 ", "[if]", "[match x ", "$1", "\x00", "\xff"} {
			holds(t, whole[:i]+c+rest)
			holds(t, whole[:i]+c+whole[i:])
		}
	}
}

// The same source is the same program, or the same error, each time.
func TestAgain(t *testing.T) {
	for _, s := range []string{"", "a [b]; pipe c d", "set", "a [set 1 2]", strings.Repeat("a\n", 1600), strings.Repeat(" ", api.MaxSource+1)} {
		l, err := Parse(s)
		again, wrong := Parse(s)
		if !core.Same(l, again) || fmt.Sprint(err) != fmt.Sprint(wrong) {
			t.Errorf("%.20q: %v, %v", s, err, wrong)
		}
	}
}

// isError answers whether it is one that the chapter names with a place.
func isError(err error) bool {
	return slices.Contains([]error{api.ErrForm, api.ErrNest, api.ErrLong, api.ErrBrace, api.ErrQuote, api.ErrParen, api.ErrName, api.ErrToken}, err)
}
