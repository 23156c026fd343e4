package consts

import (
	"slices"
	"strings"
	"testing"

	"patois/api"
	"patois/core"
	"patois/spell"
)

// of is a node of the kind, with no N and no S, over these kids.
func of(kind int, kids ...[]api.Node) []api.Node { return core.New(kind, 0, "", kids...) }

func get(name string) []api.Node { return core.New(api.Var, 0, name) }

func nop() []api.Node { return of(api.Nop) }

// long is a Lit of so many bytes.
func long(n int) []api.Node { return core.Lit(strings.Repeat("a", n)) }

// let is the program that a word is asked in.
func let(word []api.Node) []api.Node { return core.New(api.Set, 0, "x", word) }

// told is the word as text, or that there is none that may be.
func told(word []api.Node) string {
	if s := spell.Print(word); s != "" {
		return s
	}
	return "none"
}

func program(t *testing.T, s string) []api.Node {
	t.Helper()
	l, err := spell.Parse(s)
	if err != nil {
		t.Fatalf("%s: %v", s, err)
	}
	return l
}

func word(t *testing.T, s string) []api.Node {
	t.Helper()
	return core.Kids(program(t, `(set "x" `+s+`)`))[0]
}

// becomes asks what comes of words: of each one behind its name in the pairs, or,
// where that is "", the word itself. It asks for it by Word, and by Pass of a
// program in which it stands, and once more of what came.
func becomes(t *testing.T, pairs ...string) {
	t.Helper()
	for i := 0; i < len(pairs); i += 2 {
		from, want := pairs[i], pairs[i+1]
		if want == "" {
			want = from
		}
		l := word(t, from)
		if got := told(Word(l)); got != want {
			t.Errorf("Word(%s): %s, not %s", from, got, want)
		}
		if got := told(Word(Word(l))); got != want {
			t.Errorf("Word of Word(%s): %s, not %s", from, got, want)
		}
		if got := spell.Print(Pass(let(l))); got != `(set "x" `+want+`)` {
			t.Errorf("Pass(%s): %s, not %s", from, got, want)
		}
		if !core.Same(l, word(t, from)) {
			t.Errorf("Word(%s) has changed it", from)
		}
	}
}

// The chapter's examples.
func TestExamples(t *testing.T) {
	becomes(t,
		`(join (lit "a") (lit "b") (var "x"))`, `(join (lit "ab") (var "x"))`,
		`(join (lit "") (var "x"))`, ``,
		`(glob (lit 1 "a\5c*"))`, `(lit "a*")`,
		`(flat (cat (lit "a") (lit "b")))`, ``,
		`(split (lit "a b"))`, ``,
		`(split (lit " a"))`, `(lit 1 "a")`,
	)
}

// P17.1, the first rule.

func TestFirstJoinsAreOpened(t *testing.T) {
	becomes(t,
		`(join (join (var "a") (var "b")) (var "c"))`, `(join (var "a") (var "b") (var "c"))`,
		`(join (join (join (var "a") (var "b")) (var "c")) (var "d"))`, `(join (var "a") (var "b") (var "c") (var "d"))`,
		`(join (join (var "a")))`, `(join (var "a"))`,
		`(join (join (var "a")) (join (var "b")))`, `(join (var "a") (join (var "b")))`,
		// One elsewhere stays: lists that are joined from the left may be others then.
		`(join (var "a") (join (var "b") (var "c")))`, ``,
		`(join (lit "a") (join (lit "b") (var "c")))`, ``,
		`(join (join (var "a") (join (var "b") (var "c"))) (var "d"))`, `(join (var "a") (join (var "b") (var "c")) (var "d"))`,
		// With a Sub below it too.
		`(join (join (var "a") (sub (nop))) (var "b"))`, `(join (var "a") (sub (nop)) (var "b"))`,
		// What is no Join stays, even if a Join is below it.
		`(join (split (join (var "a") (var "b"))) (var "c"))`, ``,
		`(join (cat (join (var "a") (var "b"))) (var "c"))`, `(join (var "a") (var "b") (var "c"))`,
		`(join (cat (join (var "a") (var "b")) (var "c")) (var "d"))`, ``,
	)
}

func TestEmptyLitsAreLeftOut(t *testing.T) {
	becomes(t,
		`(join (lit "") (var "a") (var "b"))`, `(join (var "a") (var "b"))`,
		`(join (var "a") (lit "") (var "b"))`, `(join (var "a") (var "b"))`,
		`(join (var "a") (var "b") (lit ""))`, `(join (var "a") (var "b"))`,
		`(join (var "a") (lit 1 "") (var "b") (lit ""))`, `(join (var "a") (var "b"))`,
		// Two others have to stay.
		`(join (lit "") (var "a"))`, ``,
		`(join (var "a") (lit ""))`, ``,
		`(join (var "a") (lit 1 ""))`, ``,
		`(join (lit "") (lit 1 ""))`, ``,
		// From the left.
		`(join (lit 1 "") (var "a") (lit ""))`, `(join (var "a") (lit ""))`,
		`(join (lit "") (var "a") (lit 1 ""))`, `(join (var "a") (lit 1 ""))`,
		`(join (lit "") (lit "") (lit 1 "") (var "a"))`, `(join (lit 1 "") (var "a"))`,
		`(join (var "a") (lit "") (lit 1 ""))`, `(join (var "a") (lit 1 ""))`,
		`(join (var "a") (lit 1 "") (lit ""))`, `(join (var "a") (lit ""))`,
		`(join (lit 1 "") (lit "") (lit 1 ""))`, `(join (lit "") (lit 1 ""))`,
		// Lits alone.
		`(join (var "a") (flat (cat)) (var "b"))`, ``,
		`(join (var "a") (cat) (var "b"))`, ``,
		`(join (var "a") (lit " ") (var "b"))`, ``,
		// One below is one of its Join's.
		`(join (var "a") (join (lit "") (var "b")) (var "c"))`, ``,
	)
}

func TestOpeningAndLeavingOutAgain(t *testing.T) {
	becomes(t,
		`(join (lit "") (join (var "a") (var "b")) (var "c"))`, `(join (var "a") (var "b") (var "c"))`,
		`(join (join (lit "") (join (var "a") (var "b"))) (lit "") (var "c"))`, `(join (var "a") (var "b") (var "c"))`,
		`(join (lit "") (join (var "a") (var "b")))`, ``,
		`(join (lit "") (join (var "a") (var "b")) (lit ""))`, `(join (var "a") (var "b"))`,
		`(join (lit "") (join (var "a")) (lit ""))`, `(join (var "a") (lit ""))`,
		`(join (join (lit "") (var "a")) (var "b"))`, `(join (var "a") (var "b"))`,
		`(join (join (var "a") (lit "")) (var "b"))`, `(join (var "a") (var "b"))`,
		`(join (join (var "a")) (lit ""))`, `(join (var "a") (lit ""))`,
		`(join (lit "") (join (lit "") (join (lit "") (join (var "a") (var "b")))) (lit ""))`, `(join (var "a") (var "b"))`,
		// All empty ones that may go do, ahead of the next opening.
		`(join (lit "") (join (lit "") (lit 1 "")) (lit "") (var "a"))`, `(join (lit 1 "") (var "a"))`,
		`(join (lit "") (join (lit 1 "") (lit "")) (lit 1 "") (var "a"))`, `(join (lit "") (var "a"))`,
	)
}

func TestNeighbouringLits(t *testing.T) {
	becomes(t,
		`(join (lit "a") (lit "b") (lit "c") (var "x"))`, `(join (lit "abc") (var "x"))`,
		`(join (var "x") (lit "a") (lit "b"))`, `(join (var "x") (lit "ab"))`,
		`(join (lit 1 "a") (lit 1 "\5cb") (var "x"))`, `(join (lit 1 "a\5cb") (var "x"))`,
		`(join (lit "a") (lit 1 "b") (lit "c"))`, ``,
		`(join (lit "a") (lit "b") (lit 1 "c") (lit 1 "d") (lit "e") (lit "f"))`, `(join (lit "ab") (lit 1 "cd") (lit "ef"))`,
		`(join (lit "a") (var "x") (lit "b"))`, ``,
		// What is left out stands between none any more.
		`(join (lit "a") (lit 1 "") (lit "b") (var "x"))`, `(join (lit "ab") (var "x"))`,
		`(join (join (lit "a") (var "x")) (lit "b") (lit "c"))`, `(join (lit "a") (var "x") (lit "bc"))`,
		`(join (join (var "x") (lit "a")) (lit "b"))`, `(join (var "x") (lit "ab"))`,
		// Two that are empty make an empty one.
		`(join (lit "") (lit ""))`, `(lit "")`,
		`(join (lit 1 "") (lit 1 ""))`, `(lit 1 "")`,
		`(join (lit "") (lit "a"))`, `(lit "a")`,
		`(join (lit "") (lit 1 "a"))`, ``,
		// Backslashes are bytes like others.
		`(join (lit "\5c") (lit "*"))`, `(lit "\5c*")`,
		`(glob (join (lit "\5c") (lit "*")))`, `(lit "*")`,
	)
}

func TestJoinsOfOne(t *testing.T) {
	becomes(t,
		`(join (lit "a"))`, `(lit "a")`,
		`(join (lit ""))`, `(lit "")`,
		`(join (lit 1 "*"))`, `(lit 1 "*")`,
		`(join (lit "a") (lit "b"))`, `(lit "ab")`,
		`(join (flat (var "x")))`, `(flat (var "x"))`,
		`(join (count (var "x")))`, `(count (var "x"))`,
		`(join (sub (nop)))`, `(sub (nop))`,
		`(join (join (join (sub (nop)))))`, `(sub (nop))`,
		`(join (var "x"))`, ``,
		`(join (cat))`, ``,
		`(join (split (var "x")))`, ``,
		`(join (glob (lit "*")))`, ``,
		`(join (plain (var "x")))`, ``,
		`(join (esc (var "x")))`, ``,
		`(join (pick 1 (var "x")))`, ``,
		`(join (flat (var "x")) (flat (var "y")))`, ``,
	)
}

func TestLitsThatFit(t *testing.T) {
	half, v := api.MaxString/2, get("v")
	for i, c := range []struct{ from, want []api.Node }{
		{of(api.Join, long(half), long(half), v), of(api.Join, long(2*half), v)},
		{of(api.Join, long(half), long(half+1), v), of(api.Join, long(half), long(half+1), v)},
		{of(api.Join, long(2*half), core.Lit("b"), v), of(api.Join, long(2*half), core.Lit("b"), v)},
		// From the left, as many as fit.
		{of(api.Join, long(half), long(half-1), long(2), long(half), v), of(api.Join, long(2*half-1), long(half+2), v)},
		{of(api.Join, long(2*half-1), long(2), long(half), long(half-2), v), of(api.Join, long(2*half-1), long(2*half), v)},
		{of(api.Join, long(half+1), long(half), long(half), long(half), long(half), v), of(api.Join, long(half+1), long(2*half), long(2*half), v)},
		{of(api.Join, long(2*half), long(1)), of(api.Join, long(2*half), long(1))},
		{of(api.Join, long(2*half), core.Lit(""), long(1)), of(api.Join, long(2*half), long(1))},
		{of(api.Join, long(2*half), core.Lit("")), long(2 * half)},
		{of(api.Flat, of(api.Join, long(half), long(half))), long(2 * half)},
		{of(api.Flat, of(api.Join, long(half), long(half+1))), of(api.Flat, of(api.Join, long(half), long(half+1)))},
		{of(api.Join, of(api.Join, long(half), v), long(half)), of(api.Join, long(half), v, long(half))},
	} {
		if got := Word(c.from); !core.Same(got, c.want) || !core.Same(Word(got), c.want) {
			t.Errorf("%d: %d nodes", i, len(got))
		}
	}
	// Byte by byte.
	bytes := slices.Repeat([][]api.Node{core.Lit("a")}, api.MaxNodes-2)
	if got := Word(of(api.Join, bytes...)); !core.Same(got, of(api.Join, long(api.MaxString), long(api.MaxNodes-2-api.MaxString))) {
		t.Error(len(got))
	}
}

// P17.1, the second rule.

func TestCats(t *testing.T) {
	becomes(t,
		`(cat)`, ``,
		`(cat (lit "a") (lit "b"))`, ``,
		`(cat (lit "a"))`, `(lit "a")`,
		`(cat (var "x"))`, `(var "x")`,
		`(cat (join (var "x")))`, `(join (var "x"))`,
		`(cat (sub (nop)))`, `(sub (nop))`,
		`(cat (cat))`, `(cat)`,
		`(cat (cat) (cat (cat)))`, `(cat)`,
		`(cat (cat (cat (lit "a"))))`, `(lit "a")`,
		`(cat (cat) (var "x") (cat))`, `(var "x")`,
		`(cat (cat (lit "a") (lit "b")) (lit "c"))`, `(cat (lit "a") (lit "b") (lit "c"))`,
		`(cat (lit "a") (cat (lit "b") (lit "c")))`, `(cat (lit "a") (lit "b") (lit "c"))`,
		`(cat (lit "a") (cat (lit "b") (cat (lit "c") (cat (lit "d") (lit "e")))))`, `(cat (lit "a") (lit "b") (lit "c") (lit "d") (lit "e"))`,
		// Only Cats themselves.
		`(cat (lit "a") (join (cat (lit "b") (lit "c"))))`, ``,
		`(cat (lit "") (lit ""))`, ``,
		`(join (cat (lit "a") (lit "b")) (cat (lit "c") (lit "d")))`, ``,
	)
}

func TestCatsWithSubs(t *testing.T) {
	becomes(t,
		`(cat (cat (lit "a") (sub (nop))) (lit "b"))`, `(cat (lit "a") (sub (nop)) (lit "b"))`,
		`(cat (lit "b") (cat (lit "a") (sub (nop))))`, ``,
		`(cat (lit "b") (cat (lit "a") (flat (cat (sub (nop)) (var "x")))))`, ``,
		`(cat (lit "b") (cat (lit "a") (cat (lit "c") (sub (nop)))))`, ``,
		`(cat (lit "b") (cat (cat (lit "a") (sub (nop))) (lit "c")))`, `(cat (lit "b") (cat (lit "a") (sub (nop)) (lit "c")))`,
		`(cat (lit "b") (cat (sub (nop))))`, `(cat (lit "b") (sub (nop)))`,
		`(cat (sub (nop)) (cat (lit "a") (lit "b")))`, `(cat (sub (nop)) (lit "a") (lit "b"))`,
		// It is the first, if nothing is ahead of it any more.
		`(cat (cat) (cat (lit "a") (sub (nop))))`, `(cat (lit "a") (sub (nop)))`,
		`(cat (cat) (cat (cat)) (cat (lit "a") (sub (nop))) (cat (lit "b") (sub (nop))))`, `(cat (lit "a") (sub (nop)) (cat (lit "b") (sub (nop))))`,
		`(cat (cat (lit "a") (cat (lit "b") (sub (nop)))) (lit "c"))`, `(cat (lit "a") (cat (lit "b") (sub (nop))) (lit "c"))`,
		`(cat (lit "a") (cat) (cat (lit "b") (sub (nop))))`, `(cat (lit "a") (cat (lit "b") (sub (nop))))`,
		`(cat (cat) (lit "a") (cat (lit "b") (sub (nop))))`, `(cat (lit "a") (cat (lit "b") (sub (nop))))`,
	)
}

// P17.1, the third rule.

func TestFlats(t *testing.T) {
	becomes(t,
		`(flat (lit "a"))`, `(lit "a")`,
		`(flat (lit ""))`, `(lit "")`,
		`(flat (lit 1 "*"))`, `(lit 1 "*")`,
		`(flat (flat (var "x")))`, `(flat (var "x"))`,
		`(flat (count (var "x")))`, `(count (var "x"))`,
		`(flat (sub (nop)))`, `(sub (nop))`,
		`(flat (flat (flat (flat (sub (nop))))))`, `(sub (nop))`,
		`(flat (var "x"))`, ``,
		`(flat (cat))`, ``,
		`(flat (cat (lit "a")))`, `(lit "a")`,
		`(flat (join (var "x") (lit "a")))`, ``,
		`(flat (pick 1 (var "x")))`, ``,
		`(flat (esc (flat (var "x"))))`, ``,
		`(flat (plain (flat (var "x"))))`, ``,
		`(flat (split (flat (var "x"))))`, ``,
		`(flat (glob (flat (var "x"))))`, ``,
	)
}

func TestCounts(t *testing.T) {
	becomes(t,
		`(count (lit "a b"))`, `(lit "1")`,
		`(count (lit ""))`, `(lit "1")`,
		`(count (lit 1 "*"))`, `(lit "1")`,
		`(count (count (lit "a")))`, `(lit "1")`,
		`(count (flat (var "x")))`, ``,
		`(count (count (var "x")))`, ``,
		`(count (sub (nop)))`, ``,
		`(count (var "x"))`, ``,
		`(count (cat))`, ``,
		`(count (cat (lit "a") (lit "b")))`, ``,
	)
}

func TestPicks(t *testing.T) {
	becomes(t,
		`(pick 1 (lit "a"))`, `(lit "a")`,
		`(pick 1 (lit 1 "*"))`, `(lit 1 "*")`,
		`(pick 2 (lit "a"))`, `(cat)`,
		`(pick 99 (lit 1 "a"))`, `(cat)`,
		`(pick 1 (flat (var "x")))`, `(flat (var "x"))`,
		`(pick 1 (count (var "x")))`, `(count (var "x"))`,
		`(pick 1 (sub (nop)))`, `(sub (nop))`,
		`(pick 2 (flat (var "x")))`, ``,
		`(pick 2 (count (var "x")))`, ``,
		`(pick 2 (sub (nop)))`, ``,
		`(pick 1 (var "x"))`, ``,
		`(pick 1 (cat))`, ``,
		`(pick 2 (cat))`, ``,
		`(pick 1 (pick 2 (lit "a")))`, `(pick 1 (cat))`,
		`(pick 1 (pick 1 (var "x")))`, ``,
		`(pick 1 (cat (lit "a") (lit "b")))`, ``,
	)
}

// P17.1, the fourth rule.

func TestEscs(t *testing.T) {
	becomes(t,
		`(esc (lit "a*"))`, `(lit 1 "a\5c*")`,
		`(esc (lit 1 "a\5c*"))`, `(lit 1 "a\5c\5c\5c*")`,
		`(esc (lit ""))`, `(lit 1 "")`,
		`(esc (lit "\5c"))`, `(lit 1 "\5c\5c")`,
		`(esc (lit " \09\0a[?]"))`, `(lit 1 "\5c \5c\09\5c\0a\5c[\5c?\5c]")`,
		`(esc (flat (lit " ")))`, `(lit 1 "\5c ")`,
		`(esc (esc (lit "*")))`, `(lit 1 "\5c\5c\5c*")`,
		`(esc (flat (var "x")))`, ``,
		`(esc (cat))`, ``,
		`(esc (cat (lit "a") (lit "b")))`, ``,
	)
	stars := func(n int) []api.Node { return core.Lit(strings.Repeat("*", n)) }
	full := of(api.Esc, stars(api.MaxString/2))
	if got := Word(full); !core.Same(got, core.New(api.Lit, 1, strings.Repeat(`\*`, api.MaxString/2))) {
		t.Error(len(got))
	}
	over := of(api.Esc, stars(api.MaxString/2+1))
	if got := Word(over); !core.Same(got, over) {
		t.Error(len(got))
	}
	if got := Word(of(api.Esc, long(api.MaxString))); !core.Same(got, core.New(api.Lit, 1, strings.Repeat("a", api.MaxString))) {
		t.Error(len(got))
	}
	one := of(api.Esc, core.Lit(strings.Repeat("a", api.MaxString-1)+"*"))
	if got := Word(one); !core.Same(got, one) {
		t.Error(len(got))
	}
}

func TestPlains(t *testing.T) {
	becomes(t,
		`(plain (lit 1 "a\5c*"))`, `(lit "a*")`,
		`(plain (lit "a\5c*"))`, `(lit "a*")`,
		`(plain (lit 1 "*"))`, `(lit "*")`,
		`(plain (lit ""))`, `(lit "")`,
		`(plain (lit "a\5c"))`, `(lit "a\5c")`,
		`(plain (lit "\5c\5c\5c "))`, `(lit "\5c ")`,
		`(plain (esc (lit "a b*")))`, `(lit "a b*")`,
		`(plain (esc (var "x")))`, ``,
		`(plain (flat (var "x")))`, ``,
	)
}

func TestGlobs(t *testing.T) {
	becomes(t,
		`(glob (lit 1 "a"))`, `(lit "a")`,
		`(glob (lit "a"))`, `(lit "a")`,
		`(glob (lit ""))`, `(lit "")`,
		`(glob (lit "a\5c*"))`, `(lit "a*")`,
		`(glob (lit "a\5c"))`, `(lit "a\5c")`,
		`(glob (lit "[]"))`, `(lit "[]")`,
		`(glob (lit "[a\5c]"))`, `(lit "[a]")`,
		`(glob (lit "*"))`, ``,
		`(glob (lit 1 "?"))`, ``,
		`(glob (lit 1 "[a]"))`, ``,
		`(glob (split (lit " a\5c* ")))`, `(lit "a*")`,
		`(glob (flat (var "x")))`, ``,
		`(glob (cat (lit "a") (lit "b")))`, ``,
	)
}

func TestSplits(t *testing.T) {
	becomes(t,
		`(split (lit "a"))`, `(lit 1 "a")`,
		`(split (lit 1 "\0a a\5c \09"))`, `(lit 1 "a\5c ")`,
		`(split (lit "*"))`, `(lit 1 "*")`,
		`(split (lit "a b"))`, ``,
		`(split (lit 1 "a b"))`, ``,
		`(split (lit ""))`, `(cat)`,
		`(split (lit " \09\0a"))`, `(cat)`,
		`(split (lit 1 " "))`, `(cat)`,
		// One that isn't Closed.
		`(split (lit "a\5c"))`, ``,
		`(split (lit " \5c"))`, ``,
		`(split (lit "a\5c\5c"))`, `(lit 1 "a\5c\5c")`,
		`(split (lit "a\5c "))`, `(lit 1 "a\5c ")`,
		`(split (lit "a b\5c"))`, ``,
		`(cat (split (lit "")) (split (lit "b")))`, `(lit 1 "b")`,
		`(split (flat (var "x")))`, ``,
		`(split (cat))`, ``,
	)
}

// P17.1: from below to above, and all others stay.

func TestFromBelow(t *testing.T) {
	becomes(t,
		`(join (cat (cat (join (lit "a") (lit "b"))) (cat)) (flat (lit "c")))`, `(lit "abc")`,
		`(count (pick 1 (flat (join (lit "a")))))`, `(lit "1")`,
		`(flat (cat (pick 2 (lit "a")) (count (lit "b"))))`, `(lit "1")`,
		`(var "x")`, ``, `(var "*")`, ``, `(lit "a")`, ``, `(lit 1 "*")`, ``,
		`(sub (call (join (lit "a") (lit "b"))))`, `(sub (call (lit "ab")))`,
		`(flat (join (sub (call (join (lit "a") (lit "b")))) (lit "")))`, `(flat (join (sub (call (lit "ab"))) (lit "")))`,
		`(sub (fun "f" (set "y" (cat (sub (eval (flat (lit "a"))))))))`, `(sub (fun "f" (set "y" (sub (eval (lit "a"))))))`,
	)
}

func TestCommands(t *testing.T) {
	for from, want := range map[string]string{
		`(nop)`: ``,
		`(call (cat (lit "a") (lit "b")) (flat (lit "c")) (cat))`:                                                                  `(call (cat (lit "a") (lit "b")) (lit "c") (cat))`,
		`(call (lit "a") (lit "b"))`:                                                                                               ``,
		`(set "x" (flat (lit "a")))`:                                                                                               `(set "x" (lit "a"))`,
		`(seq (seq (call (flat (lit "a"))) (nop)) (eval (flat (lit "b"))) (nop))`:                                                  `(seq (seq (call (lit "a")) (nop)) (eval (lit "b")) (nop))`,
		`(pipe (call (flat (lit "a"))) (call (flat (lit "b"))))`:                                                                   `(pipe (call (lit "a")) (call (lit "b")))`,
		`(if (eval (flat (lit "a"))) (eval (flat (lit "b"))) (eval (flat (lit "c"))))`:                                             `(if (eval (lit "a")) (eval (lit "b")) (eval (lit "c")))`,
		`(and (eval (flat (lit "a"))) (or (eval (flat (lit "b"))) (while (eval (flat (lit "c"))) (not (eval (flat (lit "d")))))))`: `(and (eval (lit "a")) (or (eval (lit "b")) (while (eval (lit "c")) (not (eval (lit "d"))))))`,
		`(for "i" (cat (cat) (cat (lit "a"))) (local "j" (flat (lit "b")) (eval (flat (lit "c")))))`:                               `(for "i" (lit "a") (local "j" (lit "b") (eval (lit "c"))))`,
		`(case (flat (var "x")) (flat (lit "a")) (eval (flat (lit "b"))) (cat (esc (lit "*"))) (nop))`:                             `(case (flat (var "x")) (lit "a") (eval (lit "b")) (lit 1 "\5c*") (nop))`,
		`(case (flat (lit "a")))`:                                                                                                  `(case (lit "a"))`,
		`(fun "f" (call (flat (lit "a"))))`:                                                                                        `(fun "f" (call (lit "a")))`,
		`(redir 3 (join (lit "a") (lit "b")) (here (flat (lit "c")) (eval (flat (lit "d")))))`:                                     `(redir 3 (lit "ab") (here (lit "c") (eval (lit "d"))))`,
		`(redir 1 (split (lit "a")) (nop))`:                                                                                        `(redir 1 (lit 1 "a") (nop))`,
		`(frame (nop))`:                                                                                                            ``,
		`(frame (cat (lit "a") (lit "b")) (flat (lit "c")) (cat) (eval (flat (lit "d"))))`:                                         `(frame (cat (lit "a") (lit "b")) (lit "c") (cat) (eval (lit "d")))`,
		`(frame (cat (cat (var "x"))) (frame (nop)))`:                                                                              `(frame (var "x") (frame (nop)))`,
	} {
		if want == "" {
			want = from
		}
		l := program(t, from)
		if got := spell.Print(Pass(l)); got != want {
			t.Errorf("Pass(%s): %s, not %s", from, got, want)
		}
		if !core.Same(l, program(t, from)) {
			t.Errorf("Pass(%s) has changed it", from)
		}
		// A Sub's command is passed likewise.
		if got := told(Word(of(api.Sub, l))); got != "(sub "+want+")" {
			t.Errorf("Word of a Sub of %s: %s", from, got)
		}
	}
}

// What may not be, or is no word, or no program, is copied.
func TestWhatMayNotBe(t *testing.T) {
	a := of(api.Flat, core.Lit("a"))
	joined := of(api.Join, core.Lit("a"), core.Lit("b"))
	odd := api.Node{Kind: -7, N: 1 << 40, K: -3, Size: 1 << 40, S: "\xff"}
	size := func(l []api.Node, i, size int) []api.Node {
		l = slices.Clone(l)
		l[i].Size = size
		return l
	}
	for i, l := range [][]api.Node{
		nil, {}, {odd}, {odd, odd}, of(api.Join), of(api.Cat, of(api.Join)), of(api.Flat), of(api.Flat, a, a), of(api.Cat, a, nop()),
		of(api.Sub, a), of(api.Cat, joined, core.New(api.Lit, 2, "a")), of(api.Cat, joined, core.New(api.Lit, 1, `a\`)),
		of(api.Cat, joined, long(api.MaxString+1)), of(api.Cat, joined, get("")), of(api.Cat, joined, get("1")), of(api.Cat, joined, core.New(api.Pick, 0, "", a)),
		of(api.Cat, joined, core.New(api.Pick, 100, "", a)), core.New(api.Flat, 1, "", core.Lit("a")), core.New(api.Flat, 0, "s", core.Lit("a")),
		size(joined, 0, 2), size(joined, 0, 4), size(joined, 0, 0), size(joined, 1, 2), size(joined, 2, -1), size(joined, 0, 1<<62), append(slices.Clone(joined), odd),
		of(api.Seq, let(joined)), of(api.Seq, let(joined), joined), let(nop()), core.New(api.Set, 0, "", joined), core.New(api.Redir, 4, "", joined, nop()),
		of(api.Call), of(api.Case, joined, joined), of(api.If, let(joined), let(joined)), of(api.Frame, joined),
		make([]api.Node, 2*api.MaxNodes),
	} {
		if got := Word(l); !core.Same(got, l) {
			t.Errorf("Word of %d: %v", i, got)
		}
		if got := Pass(l); !core.Same(got, l) {
			t.Errorf("Pass of %d: %v", i, got)
		}
	}
	if got := Word(let(joined)); !core.Same(got, let(joined)) {
		t.Error("Word of a command:", spell.Print(got))
	}
	if got := Pass(joined); !core.Same(got, joined) {
		t.Error("Pass of a word:", spell.Print(got))
	}
}

// below is the word below so many nodes of the kind.
func below(n, kind int, word []api.Node) []api.Node {
	for range n {
		word = of(kind, word)
	}
	return word
}

func TestAtTheBounds(t *testing.T) {
	a := core.Lit("a")
	// A Set may have a word that is one less deep than a program.
	deep, deeper := below(api.MaxNest-2, api.Flat, a), below(api.MaxNest-1, api.Flat, a)
	if got := Word(deep); !core.Same(got, a) {
		t.Error(spell.Print(got))
	}
	if got := Word(deeper); !core.Same(got, deeper) {
		t.Error(spell.Print(got))
	}
	if got := Pass(let(deep)); !core.Same(got, let(a)) {
		t.Error(spell.Print(got))
	}
	if got := Pass(let(deeper)); !core.Same(got, let(deeper)) {
		t.Error(spell.Print(got))
	}
	for _, kind := range []int{api.Join, api.Cat} {
		if got := Word(below(api.MaxNest-2, kind, a)); !core.Same(got, a) {
			t.Error(spell.Print(got))
		}
	}
	// And one that has one node less.
	many := func(n int) []api.Node { return of(api.Cat, slices.Repeat([][]api.Node{a}, n-1)...) }
	most := of(api.Flat, many(api.MaxNodes-2))
	if got := Word(most); !core.Same(got, most) {
		t.Error(len(got))
	}
	most, over := of(api.Cat, many(api.MaxNodes-2)), of(api.Cat, many(api.MaxNodes-1))
	if got := Word(most); !core.Same(got, many(api.MaxNodes-2)) {
		t.Error(len(got))
	}
	if got := Word(over); !core.Same(got, over) {
		t.Error(len(got))
	}
	if got := Pass(let(most)); !core.Same(got, let(many(api.MaxNodes-2))) {
		t.Error(len(got))
	}
	if got := Pass(let(over)); !core.Same(got, let(over)) {
		t.Error(len(got))
	}
}

// P17.2

// spoil writes over a list and the spare room behind it.
func spoil(l []api.Node) {
	l = l[:cap(l)]
	for i := range l {
		l[i] = api.Node{Kind: -9, N: -9, K: -9, Size: -9, S: "spoilt"}
	}
}

// hiding is the list with room behind it in which other nodes lie.
func hiding(l []api.Node) []api.Node {
	return append(slices.Clone(l), nop()[0], core.Lit("hidden")[0])[:len(l)]
}

func TestListsAreNewMemory(t *testing.T) {
	words := []string{
		`(lit "a")`, `(var "x")`, `(cat)`, `(join (var "x"))`, `(cat (var "x"))`, `(flat (flat (var "x")))`, `(pick 1 (lit "a"))`, `(pick 2 (lit "a"))`,
		`(join (flat (var "x")))`, `(join (lit "a") (lit "b"))`, `(join (join (var "x") (lit "b")) (var "y"))`, `(cat (lit "a") (cat (var "x") (var "y")))`,
		`(esc (lit "*"))`, `(plain (lit 1 "*"))`, `(glob (lit "*"))`, `(glob (lit "a"))`, `(split (lit ""))`, `(split (lit "a"))`, `(split (lit "a b"))`, `(count (lit "a"))`,
		`(sub (call (flat (lit "a"))))`,
	}
	for _, s := range words {
		l := word(t, s)
		asksNewMemory(t, s, l, Word)
		asksNewMemory(t, s, let(l), Pass)
		// A copy is new memory too.
		asksNewMemory(t, s, l, Pass)
		asksNewMemory(t, s, let(l), Word)
	}
}

func asksNewMemory(t *testing.T, what string, l []api.Node, ask func([]api.Node) []api.Node) {
	t.Helper()
	handed := hiding(l)
	whole := slices.Clone(handed[:len(handed)+2])
	first, next := ask(handed), ask(handed)
	want := slices.Clone(first)
	if !core.Same(first, next) || !slices.Equal(handed[:len(handed)+2], whole) {
		t.Error(what, "has changed")
	}
	spoil(first)
	if !core.Same(next, want) || !slices.Equal(handed[:len(handed)+2], whole) || !core.Same(ask(handed), want) {
		t.Error(what, "is shared")
	}
	spoil(handed)
	if !core.Same(next, want) {
		t.Error(what, "is what was handed in")
	}
}
