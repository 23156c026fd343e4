package bparse

import (
	"fmt"
	"slices"
	"strings"
	"testing"

	"patois/api"
	"patois/core"
)

// within is what stands ahead of a part, and behind it.
type within [2]string

// nested is s in so many parts.
func nested(w within, times int, s string) string {
	return strings.Repeat(w[0], times) + s + strings.Repeat(w[1], times)
}

// A program's nodes may be nested deeper than it may be while the source's parts
// are not, so that ErrNest around 0 is no error of the source.
func parsesButForNodes(t *testing.T, s string) {
	t.Helper()
	if _, err := Parse(s); err != nil && !isAt(err, 0, api.ErrNest) {
		t.Errorf("Parse(%.60q..): %v", s, err)
	}
}

// nests is each way that a list, or the command behind an if, while or for,
// stands in another; and the place in it of the first part that is one more.
func nests() map[within]int {
	return map[within]int{
		{"{", "}"}: 1, {"if(", ") b"}: 3, {"while(", ") b"}: 6, {"fn f {", "}"}: 6, {"a `{", "}"}: 4, {"x=`{", "}"}: 4, {"a >b^`{", "}"}: 7, {"switch(a){case b;", "}"}: 17, {"switch(a){case;case b\n", "}"}: 15, {"switch(`{", "}){}"}: 9, {"switch(a){case `{", "};}"}: 17, {"for(i in `{", "}) b"}: 11,
		{"if() ", ""}: 3, {"if(b)\n\n", ""}: 3, {"if() b else ", ""}: 3, {"while() ", ""}: 6, {"for(i in b) ", ""}: 12, {"for(i in)\n\n", ""}: 11,
	}
}

func TestNesting(t *testing.T) {
	most := api.MaxNest - 1
	for w, first := range nests() {
		place := most*len(w[0]) + first
		for _, inner := range []string{"a", "a )", "{a}", "!a", "else", "in", "case", "&& a", "'a' b | c", ""} {
			refuses(t, api.ErrNest, refused{nested(w, most+1, inner), place}, refused{nested(w, most+9, inner), place})
		}
		refuses(t, api.ErrNest, refused{"a; b\n" + nested(w, most+1, "a"), place + 5})
		parsesButForNodes(t, nested(w, most, "a"))
		parsesButForNodes(t, nested(w, most, "a")+"\n"+nested(w, most, "b"))
		refuses(t, api.ErrForm, refused{nested(w, most, "&&"), most * len(w[0])})
		refuses(t, api.ErrEnd, refused{strings.Repeat(w[0], most) + "a &&", most*len(w[0]) + 4})
	}
	parses(t, src{nested(within{"{", "}"}, most, "a"), "call('a')"}, src{nested(within{"{", "};{}"}, 1, nested(within{"{", "}"}, most-1, "a")), "seq(call('a') nop())"})
}

// A list's place is that of its first token, a line too, or what ends it; a
// command's is behind the lines ahead of it.
func TestPlacesOfNesting(t *testing.T) {
	braces := strings.Repeat("{", api.MaxNest-1)
	refuses(t, api.ErrNest,
		refused{braces + "{  # a", 35}, refused{braces + "{ \n a", 31}, refused{braces + "{ ; a", 31}, refused{braces + "{ }", 31}, refused{braces + "{", 30}, refused{braces + "a; `{ b}", 35}, refused{braces + "if(a) b", 32}, refused{braces + "if( ) b", 33}, refused{braces + "while(", 35}, refused{braces + "fn f { a", 36}, refused{braces + "fn f {", 35}, refused{braces + "switch(a) {case\n b", 46}, refused{braces + "switch(a) {case;;b", 45},
		refused{braces + "for(i in a) \n\n  b", 45}, refused{braces + "for(i in a)\n;", 41}, refused{braces + "for(i in a)", 40}, refused{braces + "for(i in a)\n", 41}, refused{braces + "for(i in a) else", 41}, refused{braces + "a (b)", 31}, refused{braces + "a (", 31}, refused{braces + "a ;b^(", 34}, refused{braces + "for(i in a (b)) c", 40}, refused{braces + "switch((a)) {", 36}, refused{braces + "switch(a){case (b)", 44}, refused{braces + "x=()", 31}, refused{braces + "a >()", 32},
	)
	// What is no part of its own is as deep as what it stands in.
	ends := strings.Repeat("}", api.MaxNest-1)
	parses(t, src{braces + "x=a b$y^c >d && e | f" + ends, "and(redir2('d' local:x('a' call(join('b' $y 'c')))) pipe(call('e') call('f')))"}, src{braces + "switch(a){}" + ends, "case(flat('a'))"})
}

// Each bracket of an item is one more, and so is what stands in it.
func TestNestingOfBrackets(t *testing.T) {
	most := api.MaxNest - 1
	for _, w := range []within{{"(", ")"}, {"b^(", ")"}, {"$x(", ")'b'"}, {"() (", ") ()"}} {
		place := 2 + most*len(w[0]) + strings.Index(w[0], "(")
		for _, inner := range []string{"a", "", ";", "^", "((a", "`{a}"} {
			refuses(t, api.ErrNest, refused{"a " + nested(w, most+1, inner), place}, refused{"a " + nested(w, most+5, inner), place})
		}
		parsesButForNodes(t, "a "+nested(w, most, "b"))
		parsesButForNodes(t, "a "+nested(w, most, "b")+" "+nested(w, most, "c"))
		refuses(t, api.ErrForm, refused{"a " + nested(w, most, ";"), 2 + most*len(w[0])})
		refuses(t, api.ErrEnd, refused{"a " + strings.Repeat(w[0], most), 2 + most*len(w[0])})
		refuses(t, api.ErrNest, refused{"{a " + nested(w, most, "b"), place + 1 - len(w[0])}, refused{"for(i in a) b " + nested(w, most, "c"), place + 12 - len(w[0])}, refused{"a " + nested(w, most, "`{b}"), 2 + most*len(w[0]) + 2})
	}
	refuses(t, api.ErrNest, refused{nested(within{"{a (`{", "})}"}, 10, "b"), 9*6 + 6}, refused{"a;" + nested(within{"(`{", "})"}, 15, "b"), 2 + 14*3 + 3}, refused{"if(a) " + nested(within{"{while(a) ", "}"}, 14, "{b}"), 6 + 14*10 + 1})
	parses(t, src{"a " + nested(within{"(", ")"}, 27, ""), "call('a' " + nested(within{"cat(", ")"}, 27, "") + ")"})
}

// The program's own bounds: deep nodes, and many.
func TestDeepPrograms(t *testing.T) {
	for _, w := range []within{{"", " >f"}, {"x=1 ", ""}, {"", " && b"}, {"", " <<<c"}} {
		// A call has its words below it, which are the deepest.
		most := api.MaxNest - 2
		l, err := Parse(nested(w, most, "a"))
		if err != nil || core.Depth(l) != api.MaxNest {
			t.Errorf("%q: %v", w, err)
		}
		refuses(t, api.ErrNest, refused{nested(w, most+1, "a"), 0}, refused{"\n\n" + nested(w, most+1, "a"), 0}, refused{"b;" + nested(w, most, "a"), 0})
		refuses(t, api.ErrForm, refused{nested(w, most+1, "a") + " )", len(nested(w, most+1, "a")) + 1})
	}
	parses(t, src{"a " + nested(within{"(", ")"}, 28, "b"), "call('a' " + nested(within{"cat(", ")"}, 28, "'b'") + ")"})
	refuses(t, api.ErrNest, refused{nested(within{"a `{", "}"}, 20, "a"), 0}, refused{"a " + nested(within{"(", ")"}, 29, "b"), 0}, refused{"switch(a){case " + nested(within{"(", ")"}, 28, "b") + ";}", 0})
}

func TestManyNodes(t *testing.T) {
	// A Seq of calls of one word each: twice as many nodes, and one.
	calls := strings.Repeat("a\n", api.MaxNodes/2-1)
	for _, x := range []struct {
		s     string
		nodes int
	}{{calls + "x=a", api.MaxNodes + 1}, {calls + "{}", api.MaxNodes}, {calls, api.MaxNodes - 1}, {calls + ";{};", api.MaxNodes}, {calls + "a b", api.MaxNodes + 2}, {"a" + strings.Repeat(" b", api.MaxNodes-2), api.MaxNodes}, {"a" + strings.Repeat(" b", api.MaxNodes-1), api.MaxNodes + 1}} {
		l, err := Parse(x.s)
		if x.nodes <= api.MaxNodes && (err != nil || len(l) != x.nodes) || x.nodes > api.MaxNodes && (err != api.ErrMany || len(l) > 0) {
			t.Errorf("%d nodes: %d, %v", x.nodes, len(l), err)
		}
	}
	// ErrMany goes ahead of ErrNest, and all errors of the source ahead of both.
	for _, s := range []string{strings.Repeat("a&&", 2000) + "a", strings.Repeat("x=1 ", 2000) + "a", strings.Repeat(">a ", 2000), calls + "b; b" + strings.Repeat(" >f", 50), "a" + strings.Repeat("$x", 4000), "a" + strings.Repeat("()", 4000)} {
		if l, err := Parse(s); err != api.ErrMany || len(l) > 0 {
			t.Errorf("%.20q..: %v", s, err)
		}
	}
	long := strings.Repeat("a\n", 2000)
	refuses(t, api.ErrForm, refused{long + "else", 4000}, refused{long + "a `{else}", 4004})
	refuses(t, api.ErrEnd, refused{long + "{", 4001})
	refuses(t, api.ErrLong, refused{long + "a " + strings.Repeat("b", api.MaxString+1), 4002})
	refuses(t, api.ErrToken, refused{long + "&", 4000})
	refuses(t, api.ErrNest, refused{long + strings.Repeat("{", 31), 4030})
}

func TestLongSources(t *testing.T) {
	if l, err := Parse(strings.Repeat(" ", api.MaxSource)); told(l) != "nop()" || err != nil {
		t.Errorf("%s, %v", told(l), err)
	}
	for _, s := range []string{strings.Repeat(" ", api.MaxSource+1), "else" + strings.Repeat(" ", api.MaxSource), "&" + strings.Repeat("'", api.MaxSource), strings.Repeat("{", 1<<20)} {
		if l, err := Parse(s); err != api.ErrLong || len(l) > 0 {
			t.Errorf("%.20q..: %v", s, err)
		}
	}
	refuses(t, api.ErrEnd, refused{"if" + strings.Repeat(" ", api.MaxSource-2), api.MaxSource})
}

// Lex's error goes ahead of all others; those of the grammar are met from the
// left.
func TestErrorsFromTheLeft(t *testing.T) {
	long := strings.Repeat("b", api.MaxString+1)
	refuses(t, api.ErrQuote, refused{"else 'a", 5}, refused{"a `{else} 'b", 10}, refused{strings.Repeat("{", 40) + "'", 40}, refused{"a " + long + " '", 2004})
	refuses(t, api.ErrToken, refused{"else & a", 5}, refused{"a `b", 2}, refused{") `", 2}, refused{"a `{else} &", 10}, refused{strings.Repeat("(", 40) + "&", 40})
	refuses(t, api.ErrName, refused{"else $", 5}, refused{"a } $-", 4}, refused{"a $0", 2}, refused{"else $" + strings.Repeat("x", api.MaxName+1), 5}, refused{"a $#1", 2})
	refuses(t, api.ErrForm, refused{"else; " + long, 0}, refused{"a `{else} )", 4}, refused{"a; in; case", 3}, refused{"a (b `{in}^;", 7}, refused{"a ) " + strings.Repeat("{", 40), 2}, refused{"case a; {", 0}, refused{"if(a) else b (", 6})
	refuses(t, api.ErrEnd, refused{"a `{if(b) c else", 16}, refused{"{ a (b `{c", 10})
	refuses(t, api.ErrLong, refused{"a " + long + " else", 2}, refused{"a " + long + strings.Repeat(";{", 40), 2})
	refuses(t, api.ErrNest, refused{strings.Repeat("{", 40) + long, 30}, refused{strings.Repeat("{", 30) + "else", 30}, refused{strings.Repeat("{", 29) + "a (" + long, 31})
}

// No source makes a call panic: every prefix, and every source with a byte more
// or less, of one with all that the grammar has.
func TestBrokenSources(t *testing.T) {
	whole := "fn f {a=1 b=(c $1) d $#x $\"y * >c}\nif(!a | b && c) for(i in a^b `{c;d}e) f else while(g <h) {i} <<<'j k'\nswitch($x){case a* 'b*' $y^?\\; c\ncase;}>>$z || k"
	if _, err := Parse(whole); err != nil {
		t.Fatal(err)
	}
	for i := range len(whole) {
		rest := whole[i+1:]
		for _, s := range []string{whole[:i], whole[i:], whole[:i] + rest} {
			ended(t, s)
		}
		for _, c := range []string{" ", ";", "\n", "'", "\"", "\\", "$", "`{", ")", "(", "{", "}", "&", "|", "<", "^", "=", "!", " else ", " case ", " in ", "if(", "#", "\x00", "\xff"} {
			ended(t, whole[:i]+c+rest)
			ended(t, whole[:i]+c+whole[i:])
		}
	}
}

// ended checks that a source is either a program or refused, at one of its
// places.
func ended(t *testing.T, s string) {
	t.Helper()
	l, err := Parse(s)
	at, is := err.(*api.At)
	switch {
	case err == nil && core.Check(l) == nil:
	case is && 0 <= at.Pos && at.Pos <= len(s) && len(l) == 0 && isError(at.Err):
	default:
		t.Errorf("Parse(%q): %s, %v", s, told(l), err)
	}
}

func isError(err error) bool {
	return slices.Contains([]error{api.ErrForm, api.ErrEnd, api.ErrNest, api.ErrLong, api.ErrQuote, api.ErrName, api.ErrToken}, err)
}

// The same source is the same program, or the same error, each time.
func TestAgain(t *testing.T) {
	for _, s := range []string{"", "a `{b} | c", "if(a", "a `{else}", strings.Repeat("a\n", 1600), strings.Repeat(" ", api.MaxSource+1)} {
		l, err := Parse(s)
		again, wrong := Parse(s)
		if !core.Same(l, again) || fmt.Sprint(err) != fmt.Sprint(wrong) {
			t.Errorf("%.20q: %v, %v", s, err, wrong)
		}
	}
}
