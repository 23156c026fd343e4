package aparse

import (
	"fmt"
	"strings"
	"testing"

	"patois/alex"
	"patois/api"
	"patois/core"
)

// within is a list in a list: what stands ahead of the inner one, and behind.
type within [2]string

// nests is each way that a list of the grammar stands in another one; where the
// command's first list, by which it is refused, is another one, its place.
func nests() map[within]int {
	return map[within]int{
		{"{ ", "\n}"}: 2, {"if ", "\nthen fi"}: 3, {"if then ", "\nfi"}: 3, {"if then else ", "\nfi"}: 3, {"while ", "\ndo done"}: 6, {"while do ", "\ndone"}: 6, {"for i in a; do ", "\ndone"}: 15, {"case a in b) ", "\nesac"}: 13, {"case a in b);; (b) ", ";; c);; esac"}: 12, {"f() { ", "\n}"}: 6,
	}
}

// nested is s in so many lists.
func nested(w within, times int, s string) string {
	return strings.Repeat(w[0], times) + s + strings.Repeat(w[1], times)
}

// A program's nodes may be nested deeper than it may be while its lists are
// not, so that ErrNest around 0 is no error of the source.
func parsesButForNodes(t *testing.T, s string) {
	t.Helper()
	if _, err := Parse(s); err != nil && !isAt(err, 0, api.ErrNest) {
		t.Errorf("Parse(%.60q..): %v", s, err)
	}
}

func TestNesting(t *testing.T) {
	most := api.MaxNest - 1
	for w, first := range nests() {
		place := most*len(w[0]) + first
		for _, inner := range []string{"a", "", ";a", "\n\na", "fi", "$(fi)", ")", "&& a", "'a' b | c", "{ a; }", "in"} {
			refuses(t, api.ErrNest, refused{nested(w, most+1, inner), place})
		}
		refuses(t, api.ErrNest, refused{strings.Repeat(w[0], most+1), place}, refused{strings.Repeat(w[0], most+9), place}, refused{"a; b\n" + nested(w, most+1, "a"), place + 5})
		parsesButForNodes(t, nested(w, most, "a"))
		parsesButForNodes(t, nested(w, most, "")+"\n"+nested(w, most, "a; b"))
		refuses(t, api.ErrForm, refused{nested(w, most, ")"), most * len(w[0])})
		refuses(t, api.ErrEnd, refused{strings.Repeat(w[0], most), most * len(w[0])})
	}
	braces := within{"{ ", "\n}"}
	parses(t, src{nested(braces, most, "a"), "call('a')"})
	refuses(t, api.ErrNest, refused{strings.Repeat("{ ", most+1) + "  # a", 2*most + 7})
}

func TestNestingOfBrackets(t *testing.T) {
	most := api.MaxNest - 1
	for _, w := range []within{{"$(", ")"}, {"a $(", ")"}, {"\"$(", ")\""}, {"x=$(", ")"}, {"a >b$(", ")"}, {"for i in $(", "); do done"}, {"case $(", ") in esac"}, {"case a in ($(", ")) ;; esac"}} {
		dollar := strings.Index(w[0], "$")
		place := most*len(w[0]) + dollar
		for _, inner := range []string{"a", "", "fi", "&", "${1}", "a $(b)"} {
			refuses(t, api.ErrNest, refused{nested(w, most+1, inner), place})
		}
		refuses(t, api.ErrNest, refused{nested(w, most+20, "a"), place})
		parsesButForNodes(t, nested(w, most, "a"))
		refuses(t, api.ErrForm, refused{nested(w, most, "fi"), most * len(w[0])})
		refuses(t, api.ErrToken, refused{nested(w, most, "a&"), most*len(w[0]) + 1})
		refuses(t, api.ErrEnd, refused{nested(w, most, "a|"), most*len(w[0]) + 2})
	}
	refuses(t, api.ErrNest,
		refused{nested(within{"{ $(", ") ;}"}, 15, "a"), 14*4 + 2}, refused{"a;" + nested(within{"$({ ", ";})"}, 15, "a"), 2 + 15*4},
		refused{nested(within{"{ ", ";}"}, most, "a $(fi)"), most*2 + 2}, refused{nested(within{"{ ", ";}"}, most, "for i in a$(); do fi"), most*2 + 10},
	)
	refuses(t, api.ErrForm, refused{nested(within{"{ ", ";}"}, most, "fi $(a)"), most * 2}, refused{nested(within{"{ ", ";}"}, most, "for $(a)"), most*2 + 4})
}

// A word by itself counts as one in a source's list.
func TestNestingOfAWord(t *testing.T) {
	for n, want := range map[int]int{1: -1, api.MaxNest - 1: -1, api.MaxNest: 2 * (api.MaxNest - 1), api.MaxNest + 5: 2 * (api.MaxNest - 1)} {
		w := word(t, nested(within{"$(", ")"}, n, "a"))
		for i, read := range []func(alex.Token) ([]api.Node, error){Field, Value, Live} {
			_, err := read(w)
			if want < 0 && err != nil || want >= 0 && !isAt(err, want, api.ErrNest) {
				t.Errorf("%d brackets, reading %d: %v", n, i, err)
			}
		}
	}
}

// The program's own bounds: deep nodes, and many.
func TestDeepPrograms(t *testing.T) {
	for _, w := range []within{{"", " >f"}, {"x=1 ", ""}, {"", " && b"}, {"", " <<<c"}} {
		// A call has its words below it, which are the deepest.
		most := api.MaxNest - 2
		l, err := Parse(nested(w, most, "a"))
		if err != nil || core.Depth(l) != api.MaxNest {
			t.Errorf("%q: %v", w, err)
		}
		refuses(t, api.ErrNest, refused{nested(w, most+1, "a"), 0}, refused{"\n\n" + nested(w, most+1, "a"), 0}, refused{"b;" + nested(w, most, "a"), 0})
		refuses(t, api.ErrForm, refused{nested(w, most+1, "a") + " ;;", len(nested(w, most+1, "a")) + 1})
	}
	refuses(t, api.ErrNest, refused{nested(within{"a $(", ")"}, 10, "a"), 0})
}

func TestManyNodes(t *testing.T) {
	// A Seq of calls of one word each: twice as many nodes, and one.
	calls := strings.Repeat("a\n", api.MaxNodes/2-1)
	for _, x := range []struct {
		s     string
		nodes int
	}{{calls + "x=", api.MaxNodes + 1}, {calls + "{ }", api.MaxNodes}, {calls, api.MaxNodes - 1}, {calls + ";{ };", api.MaxNodes}, {calls + "a b", api.MaxNodes + 2}} {
		l, err := Parse(x.s)
		if x.nodes <= api.MaxNodes && (err != nil || len(l) != x.nodes) || x.nodes > api.MaxNodes && (err != api.ErrMany || len(l) > 0) {
			t.Errorf("%d nodes: %d, %v", x.nodes, len(l), err)
		}
	}
	// ErrMany goes ahead of ErrNest, and all errors of the source ahead of both.
	for _, s := range []string{strings.Repeat("a&&", 2000) + "a", strings.Repeat("x= ", 2000) + "a", strings.Repeat(">a ", 2000), calls + "b; b" + strings.Repeat(" >f", 50)} {
		if l, err := Parse(s); err != api.ErrMany || len(l) > 0 {
			t.Errorf("%.20q..: %v", s, err)
		}
	}
	long := strings.Repeat("a\n", 2000)
	refuses(t, api.ErrForm, refused{long + "fi", 4000}, refused{long + "a $(fi)", 4004})
	refuses(t, api.ErrEnd, refused{long + "{", 4001})
	refuses(t, api.ErrLong, refused{long + "a " + strings.Repeat("b", api.MaxString+1), 4002})
	refuses(t, api.ErrToken, refused{long + "&", 4000}, refused{long + "a $(&)", 4004})
	refuses(t, api.ErrNest, refused{long + strings.Repeat("{ ", 30), 4060})
}

func TestLongSources(t *testing.T) {
	if l, err := Parse(strings.Repeat(" ", api.MaxSource)); told(l) != "nop()" || err != nil {
		t.Errorf("%s, %v", told(l), err)
	}
	for _, s := range []string{strings.Repeat(" ", api.MaxSource+1), "fi" + strings.Repeat(" ", api.MaxSource), "&" + strings.Repeat("'", api.MaxSource), strings.Repeat("{", 1<<20)} {
		if l, err := Parse(s); err != api.ErrLong || len(l) > 0 {
			t.Errorf("%.20q..: %v", s, err)
		}
	}
	refuses(t, api.ErrEnd, refused{"if" + strings.Repeat(" ", api.MaxSource-2), api.MaxSource})
}

// Lex's error goes ahead of all others; of a `$(` it is met where the grammar
// takes the word.
func TestErrorsFromTheLeft(t *testing.T) {
	refuses(t, api.ErrQuote, refused{"fi 'a", 3}, refused{"a $(fi) \"b", 8}, refused{strings.Repeat("{ ", 40) + "'", 80}, refused{"a $(b 'c') '", 11})
	refuses(t, api.ErrParen, refused{"a $(b", 2}, refused{"fi; $(b", 4}, refused{"a $('b) )", 2}, refused{"a $(fi) $(", 8})
	refuses(t, api.ErrToken, refused{"fi & a", 3}, refused{"a $(fi) &", 8}, refused{"a \"$(b $(c &))\"", 11}, refused{"a $(b;) $(&)", 10}, refused{"a $(fi &)", 7}, refused{"a $(b $(fi) &)", 12})
	refuses(t, api.ErrName, refused{"fi ${1}", 3}, refused{"a $(b ${1} fi; fi)", 6}, refused{"a $($" + strings.Repeat("x", api.MaxName+1) + ")", 4})
	refuses(t, api.ErrForm,
		refused{"fi $(&)", 0}, refused{"a; fi $(&)", 3}, refused{"a $(fi) $(&)", 4}, refused{"a $(fi)$(&)", 4}, refused{"a \"$(b)$(fi)\"", 9}, refused{"a $(fi) )", 4}, refused{"a >$(fi) )", 5}, refused{"x=$(fi) $(&)", 4}, refused{"x=1$(b)y$(fi)", 10},
		refused{"case $(fi) of", 7}, refused{"case a of $(fi)", 7}, refused{"case a in $(fi) b", 12}, refused{"case a in b $(fi)", 12}, refused{"for i in a $(b; fi); c", 16}, refused{"a $(b $(c $(d; fi)))", 15}, refused{"a $(\n\n fi)", 7}, refused{"a '$(fi)' $(fi)", 12}, refused{"a \\$(fi)", 4}, refused{"a b$(c # )\nfi", 11},
	)
	refuses(t, api.ErrEnd, refused{"a $(if b) )", 8}, refused{"a $(b |)", 7}, refused{"a $(b $(c &&))", 12}, refused{"a \"$(if)\"", 7}, refused{"a $({ b )", 8}, refused{"a $(b >) fi", 7})
	refuses(t, api.ErrLong, refused{"a $(b)" + strings.Repeat("c", api.MaxString+1) + " $(fi) )", 2})
	parses(t, src{"a $(b # c\n)", "call('a' glob(split(sub(call('b')))))"}, src{"a $(b # c)", "call('a' glob(split(sub(call('b')))))"}, src{"a $(case b in (c) d;; esac)", "call('a' glob(split(sub(case('b' ~c~ call('d'))))))"}, src{"$(f() { a; })", "call(glob(split(sub(fun:f(call('a'))))))"})
}

// No source makes a call panic: every prefix, and every source with a byte more
// or less, of one with all that the grammar has.
func TestBrokenSources(t *testing.T) {
	whole := "f() { a=1 b $1 \"$x\"* >c; }\nif ! a | b && c; then for i in a $(b; c); do d; done; else while e <f; do { g; } <<<h; done; fi\ncase \"$x\" in (a*) b;; c) ;; esac >>$#"
	if _, err := Parse(whole); err != nil {
		t.Fatal(err)
	}
	for i := range len(whole) {
		rest := whole[i+1:]
		for _, s := range []string{whole[:i], whole[i:], whole[:i] + rest} {
			ended(t, s)
		}
		for _, c := range []string{" ", ";", "\n", "'", "\"", "\\", "$", "$(", ")", "(", "{ ", " }", "&", "|", "<", "fi ", " esac ", "#", "\x00", "\xff"} {
			ended(t, whole[:i]+c+rest)
			ended(t, whole[:i]+c+whole[i:])
		}
	}
}

// ended checks that a source is either a program or refused, at one of its
// places.
func ended(t *testing.T, s string) {
	t.Helper()
	l, err := Parse(s)
	at, is := err.(*api.At)
	switch {
	case err == nil && core.Check(l) == nil:
	case is && 0 <= at.Pos && at.Pos <= len(s) && len(l) == 0 && isError(at.Err):
	default:
		t.Errorf("Parse(%q): %s, %v", s, told(l), err)
	}
}

func isError(err error) bool {
	for _, e := range []error{api.ErrForm, api.ErrEnd, api.ErrNest, api.ErrLong, api.ErrQuote, api.ErrParen, api.ErrName, api.ErrToken} {
		if err == e {
			return true
		}
	}
	return false
}

// The same source is the same program, or the same error, each time.
func TestAgain(t *testing.T) {
	for _, s := range []string{"", "a $(b) | c", "if a", "a $(fi)", strings.Repeat("a\n", 1600), strings.Repeat(" ", api.MaxSource+1)} {
		l, err := Parse(s)
		again, wrong := Parse(s)
		if !core.Same(l, again) || fmt.Sprint(err) != fmt.Sprint(wrong) {
			t.Errorf("%.20q: %v, %v", s, err, wrong)
		}
	}
}
