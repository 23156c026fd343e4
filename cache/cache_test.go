package cache

import (
	"errors"
	"math"
	"slices"
	"strconv"
	"strings"
	"testing"

	"patois/api"
	"patois/core"
	"patois/cparse"
)

func l(items ...string) []string { return items }

// ask asks a cache for the programs of these, and checks that each is answered as
// cparse does.
func ask(t *testing.T, c *Cache, sources ...string) {
	t.Helper()
	for _, s := range sources {
		got, err := c.Parse(s)
		want, wantErr := cparse.Parse(s)
		if !core.Same(got, want) || !sameError(err, wantErr) {
			t.Errorf("Parse(%.100q): %.200v, %v; not %.200v, %v", s, got, err, want, wantErr)
		}
		if err != nil && got != nil {
			t.Errorf("Parse(%.100q): %.200v beside %v", s, got, err)
		}
	}
}

// sameError answers whether both are the same error, around the same place.
func sameError(a, b error) bool {
	x, isX := a.(*api.At)
	y, isY := b.(*api.At)
	if isX && isY {
		return *x == *y
	}
	return a == b
}

// shows checks all that a cache tells.
func shows(t *testing.T, c *Cache, hits, misses int, keys ...string) {
	t.Helper()
	if !slices.Equal(c.Keys(), keys) || c.Hits() != hits || c.Misses() != misses {
		t.Errorf("%.200q, %d, %d; not %.200q, %d, %d", c.Keys(), c.Hits(), c.Misses(), keys, hits, misses)
	}
	for _, s := range append(l("", "a", "b", "c", "{", "none"), keys...) {
		if c.Has(s) != slices.Contains(keys, s) {
			t.Errorf("Has(%.100q): %v", s, c.Has(s))
		}
	}
}

// numbers are the sources "0", "1", .. up to n of them.
func numbers(n int) []string {
	var all []string
	for i := range n {
		all = append(all, strconv.Itoa(i))
	}
	return all
}

func TestTheExample(t *testing.T) {
	c := New(1)
	ask(t, c, "a", "a", "b")
	shows(t, c, 1, 2, "b")
}

// P16.1

func TestANewOneIsEmpty(t *testing.T) {
	for most := -2; most <= api.MaxCache+2; most++ {
		c := New(most)
		shows(t, c, 0, 0)
		if c.Has("") || c.Keys() != nil {
			t.Error(most, c.Keys())
		}
	}
}

// As many as were asked for, none if that is below 0, MaxCache if it is above.
func TestMost(t *testing.T) {
	keeps := map[int]int{math.MinInt: 0, -9: 0, -1: 0, 0: 0, 1: 1, 2: 2, 5: 5, api.MaxCache - 1: api.MaxCache - 1, api.MaxCache: api.MaxCache, api.MaxCache + 1: api.MaxCache, 99: api.MaxCache, math.MaxInt: api.MaxCache}
	for most, n := range keeps {
		c := New(most)
		for i, s := range numbers(20) {
			ask(t, c, s)
			shows(t, c, 0, i+1, numbers(i + 1)[max(0, i+1-n):]...)
		}
	}
}

// What cparse answers, when it is found and when it is kept; a source that has no
// program isn't kept.
func TestParseIsCparses(t *testing.T) {
	full := strings.Repeat("a", api.MaxString)
	good := l("", " ", "#a", "a", "set x 1", "if {eq $x 1} {echo y}", "echo [put a]$x", `foreach i "a b" {put $i}`, "a;b\nc", "match $x a* {b} * c", full, strings.Repeat(" ", api.MaxSource), strings.Repeat("a;", api.MaxNodes/2-1))
	bad := l("{", `"`, "a [", "a {b}c", "$"+full, full+"a", "set x", "b; set 1 a", strings.Repeat("[", 40)+strings.Repeat("]", 40), strings.Repeat(" ", api.MaxSource+1), strings.Repeat("a;", api.MaxNodes))
	for most := range api.MaxCache + 1 {
		for _, s := range good {
			c := New(most)
			ask(t, c, s, s, s)
			if most == 0 {
				shows(t, c, 0, 3)
			} else {
				shows(t, c, 2, 1, s)
			}
		}
		for _, s := range bad {
			c := New(most)
			ask(t, c, s, s, s)
			shows(t, c, 0, 3)
		}
	}
	for _, s := range good {
		if _, err := cparse.Parse(s); err != nil {
			t.Errorf("%.100q: %v", s, err)
		}
	}
}

// Each of cparse's errors, with its place, goes up as it is.
func TestErrors(t *testing.T) {
	c := New(3)
	for s, want := range map[string]api.At{"b; {": {Pos: 3, Err: api.ErrBrace}, `b "a`: {Pos: 2, Err: api.ErrQuote}, "b [": {Pos: 2, Err: api.ErrParen}, "{a}b": {Pos: 3, Err: api.ErrToken}, "set x": {Pos: 0, Err: api.ErrForm}, "b;set 1 a": {Pos: 6, Err: api.ErrForm}, "a " + strings.Repeat("a", api.MaxString+1): {Pos: 2, Err: api.ErrLong}, "$" + strings.Repeat("n", api.MaxName+1): {Pos: 0, Err: api.ErrName}, strings.Repeat("[", 31) + strings.Repeat("]", 31): {Pos: 30, Err: api.ErrNest}} {
		for range 2 {
			_, err := c.Parse(s)
			at, is := err.(*api.At)
			if !is || *at != want || !errors.Is(err, want.Err) {
				t.Errorf("Parse(%.100q): %v; not %v", s, err, want)
			}
		}
	}
	if _, err := c.Parse(strings.Repeat(" ", api.MaxSource+1)); err != api.ErrLong {
		t.Error(err)
	}
	if _, err := c.Parse(strings.Repeat("a;", api.MaxNodes)); err != api.ErrMany {
		t.Error(err)
	}
	shows(t, c, 0, 20)
}

// An error counts as a miss, and nothing goes for it, nor stands elsewhere.
func TestAnErrorMovesNothing(t *testing.T) {
	c := New(2)
	ask(t, c, "a", "b", "{", "{")
	shows(t, c, 0, 4, "a", "b")
	ask(t, c, "a", "set", strings.Repeat(" ", api.MaxSource+1))
	shows(t, c, 1, 6, "b", "a")
	ask(t, c, "{", "b")
	shows(t, c, 2, 7, "a", "b")
}

func TestAHitStandsLast(t *testing.T) {
	for i, want := range [][]string{l("b", "c", "a"), l("a", "c", "b"), l("a", "b", "c")} {
		c := New(3)
		ask(t, c, "a", "b", "c", l("a", "b", "c")[i])
		shows(t, c, 1, 3, want...)
		// And so is the last to go.
		ask(t, c, "d")
		shows(t, c, 1, 4, want[1], want[2], "d")
		ask(t, c, want[1], "e", "f")
		shows(t, c, 2, 6, want[1], "e", "f")
	}
}

// One that has gone is a miss again, and comes last as if new.
func TestOneThatHasGone(t *testing.T) {
	c := New(2)
	ask(t, c, "a", "b", "c", "a")
	shows(t, c, 0, 4, "c", "a")
	ask(t, c, "a", "b", "a")
	shows(t, c, 2, 5, "b", "a")
}

// Strings are kept byte by byte, whatever their programs are.
func TestStringsOfOneProgram(t *testing.T) {
	all := l("a", "a ", " a", "a;", "a\n", "\"a\"", "{a}", "a ")
	c := New(api.MaxCache)
	ask(t, c, all...)
	shows(t, c, 1, 7, "a", " a", "a;", "a\n", "\"a\"", "{a}", "a ")
	c = New(2)
	ask(t, c, "", "#", "\x00", "")
	shows(t, c, 0, 4, "\x00", "")
	ask(t, c, "\xff", "\xfe", "\xff")
	shows(t, c, 1, 6, "\xfe", "\xff")
}

// To ask what is kept is neither hit nor miss, and nothing stands elsewhere for it.
func TestHasAndKeysChangeNothing(t *testing.T) {
	c := New(2)
	ask(t, c, "a", "b")
	for range 3 {
		shows(t, c, 0, 2, "a", "b")
	}
	if !c.Has("a") || c.Has("c") || c.Has("{") {
		t.Error(c.Keys())
	}
	ask(t, c, "c")
	shows(t, c, 0, 3, "b", "c")
}

func TestClear(t *testing.T) {
	for most := range api.MaxCache + 1 {
		c := New(most)
		c.Clear()
		shows(t, c, 0, 0)
		ask(t, c, "a", "b", "b", "{")
		hits := min(most, 1)
		c.Clear()
		shows(t, c, hits, 4-hits)
		c.Clear()
		shows(t, c, hits, 4-hits)
		// It keeps as many as before, and what was kept is a miss.
		ask(t, c, numbers(20)...)
		ask(t, c, "b", "a")
		shows(t, c, hits, 26-hits, append(numbers(20), "b", "a")[22-most:]...)
	}
}

// P16.2

// spoil writes over a program and all of its spare room.
func spoil(nodes []api.Node) {
	all := nodes[:cap(nodes)]
	for i := range all {
		all[i] = api.Node{Kind: 99, N: 9, K: 9, Size: 99, S: "spoiled"}
	}
}

func TestProgramsAreNew(t *testing.T) {
	for most := range api.MaxCache + 1 {
		for _, s := range l("", "a", "a b", "set x [a];b", "if {a} b $c") {
			c := New(most)
			want, _ := cparse.Parse(s)
			var answers [][]api.Node
			for range 5 {
				got, err := c.Parse(s)
				if !core.Same(got, want) || err != nil {
					t.Errorf("%d: Parse(%q): %v, %v", most, s, got, err)
				}
				answers = append(answers, got)
			}
			for i, got := range answers {
				_ = append(got, api.Node{Kind: 99})
				spoil(got)
				for _, later := range answers[i+1:] {
					if !core.Same(later, want) {
						t.Errorf("%d: %q: another answer shows it: %v", most, s, later)
					}
				}
				ask(t, c, s)
			}
		}
	}
}

// The program that is kept is nobody else's, whether a miss or a hit answered it.
func TestTheKeptOneStays(t *testing.T) {
	c := New(2)
	for range 4 {
		got, err := c.Parse("set x [a];b")
		spoil(got)
		if err != nil {
			t.Error(err)
		}
		ask(t, c, "set x [a];b", "c")
	}
	shows(t, c, 10, 2, "set x [a];b", "c")
}

// Answers are the caller's: they stay when the cache lets go of what it kept.
func TestAnswersStay(t *testing.T) {
	want, _ := cparse.Parse("a b")
	for what, change := range map[string]func(c *Cache){
		"it goes":   func(c *Cache) { ask(t, c, numbers(9)...) },
		"it moves":  func(c *Cache) { ask(t, c, "x", "a b") },
		"Clear":     func(c *Cache) { c.Clear() },
		"and again": func(c *Cache) { c.Clear(); ask(t, c, "a c", "d") },
	} {
		c := New(2)
		first, _ := c.Parse("a b")
		second, _ := c.Parse("a b")
		keys := c.Keys()
		change(c)
		if !core.Same(first, want) || !core.Same(second, want) || !slices.Equal(keys, l("a b")) {
			t.Errorf("%s: %v, %v, %q", what, first, second, keys)
		}
	}
}

func TestKeysAreNew(t *testing.T) {
	c := New(5)
	ask(t, c, "a", "b", "c")
	one, other := c.Keys(), c.Keys()
	_ = append(one, "spoiled")
	all := one[:cap(one)]
	for i := range all {
		all[i] = "spoiled"
	}
	if !slices.Equal(other, l("a", "b", "c")) {
		t.Errorf("%q", other)
	}
	shows(t, c, 0, 3, "a", "b", "c")
	ask(t, c, "d", "a")
	shows(t, c, 1, 4, "b", "c", "d", "a")
}

// An error is the caller's too.
func TestErrorsAreNew(t *testing.T) {
	c := New(5)
	_, err := c.Parse("a {")
	*err.(*api.At) = api.At{Pos: 99, Err: api.ErrEnd}
	ask(t, c, "a {")
}

func TestCachesAreApart(t *testing.T) {
	c, other := New(2), New(2)
	ask(t, c, "a", "b", "a")
	shows(t, other, 0, 0)
	ask(t, other, "c", "a")
	nodes, _ := other.Parse("a")
	spoil(nodes)
	shows(t, c, 1, 2, "b", "a")
	shows(t, other, 1, 2, "c", "a")
	c.Clear()
	shows(t, other, 1, 2, "c", "a")
	ask(t, c, "a")
}
