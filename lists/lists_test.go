package lists

import (
	"math"
	"slices"
	"strings"
	"testing"

	"patois/api"
	"patois/pattern"
)

// l writes a list.
func l(items ...string) []string { return items }

// of is n items, all s.
func of(n int, s string) []string { return slices.Repeat(l(s), n) }

// long is one item of n bytes.
func long(n int) []string { return l(strings.Repeat("x", n)) }

const (
	most    = api.MaxList
	longest = api.MaxString
)

// gives answers a check that a call's answer is want, without an error.
func gives(t *testing.T, what string, want ...string) func([]string, error) {
	return func(got []string, err error) {
		t.Helper()
		if !slices.Equal(got, want) || err != nil {
			t.Errorf("%s: %.200q, %v, not %.200q", what, got, err, want)
		}
	}
}

// isBig answers a check that a call's answer is ErrBig itself, and nothing beside.
func isBig(t *testing.T, what string) func([]string, error) {
	return func(got []string, err error) {
		t.Helper()
		if len(got) != 0 || err != api.ErrBig {
			t.Errorf("%s: %d items, %v", what, len(got), err)
		}
	}
}

// some is all lists of up to n of the items.
func some(n int, items ...string) [][]string {
	all := [][]string{nil}
	for from := 0; n > 0; n-- {
		to := len(all)
		for _, ahead := range all[from:to] {
			for _, item := range items {
				all = append(all, append(slices.Clone(ahead), item))
			}
		}
		from = to
	}
	return all
}

// P3.1

func TestCat(t *testing.T) {
	gives(t, "none")(Cat())
	gives(t, "nil")(Cat(nil))
	gives(t, "two of none")(Cat(nil, l()))
	gives(t, "one", "a")(Cat(l("a")))
	gives(t, "two", "a", "b", "c")(Cat(l("a", "b"), l("c")))
	gives(t, "none between", "a", "b", "c")(Cat(nil, l("a"), nil, l("b", "c"), nil))
	gives(t, "empty items stay", "", "a", "", "")(Cat(l(""), l("a", ""), l("")))
	gives(t, "nothing is looked at", "a b", "*", `\`, "\n", "\xff\x00")(Cat(l("a b", "*"), l(`\`, "\n", "\xff\x00")))
	gives(t, "the same ones stay", "b", "a", "b", "a")(Cat(l("b", "a"), l("b", "a")))
}

func TestCatAtItsBounds(t *testing.T) {
	gives(t, "as many as may be", of(most, "a")...)(Cat(of(most-1, "a"), l("a")))
	gives(t, "as many as may be, in one", of(most, "a")...)(Cat(of(most, "a"), nil))
	gives(t, "as many as may be, one by one", of(most, "a")...)(Cat(slices.Repeat([][]string{l("a")}, most)...))
	gives(t, "as long as may be", slices.Concat(long(longest), long(longest))...)(Cat(long(longest), long(longest)))
	gives(t, "far more than one item's bytes in all", of(most, long(longest)[0])...)(Cat(of(most, long(longest)[0])))
	isBig(t, "one too many")(Cat(of(most, "a"), l("a")))
	isBig(t, "one too many, empty")(Cat(l(""), of(most, "")))
	isBig(t, "one too many, in one")(Cat(of(most+1, "a")))
	isBig(t, "one too many, one by one")(Cat(slices.Repeat([][]string{l("a")}, most+1)...))
	isBig(t, "too long")(Cat(long(longest + 1)))
	isBig(t, "too long, last")(Cat(l("a"), nil, slices.Concat(l("b"), long(longest+1))))
}

func TestJoin(t *testing.T) {
	gives(t, "no lists", "")(Join())
	gives(t, "one of none", "")(Join(nil))
	gives(t, "one empty", "")(Join(l()))
	gives(t, "several of none", "")(Join(nil, l(), nil))
	gives(t, "one", "a", "b", "")(Join(l("a", "b", "")))
	gives(t, "two and two", "a1", "b2")(Join(l("a", "b"), l("1", "2")))
	gives(t, "two and one", "ax", "bx")(Join(l("a", "b"), l("x")))
	gives(t, "one and two", "xa", "xb")(Join(l("x"), l("a", "b")))
	gives(t, "one and one", "ab")(Join(l("a"), l("b")))
	gives(t, "three and two", "a1", "b2")(Join(l("a", "b", "c"), l("1", "2")))
	gives(t, "two and three", "a1", "b2")(Join(l("a", "b"), l("1", "2", "3")))
	gives(t, "one and none", "a")(Join(l("a"), nil))
	gives(t, "none and one", "a")(Join(nil, l("a")))
	gives(t, "two and none", "a", "b")(Join(l("a", "b"), nil))
	gives(t, "none and two", "a", "b")(Join(nil, l("a", "b")))
	gives(t, "none between", "a1", "b2")(Join(l("a", "b"), nil, l("1", "2")))
	gives(t, "three lists", "a1x", "b2x")(Join(l("a", "b"), l("1", "2"), l("x")))
	gives(t, "in turn: shorter, then with one", "a1x", "b2x")(Join(l("a", "b", "c"), l("1", "2"), l("x"), nil))
	gives(t, "in turn: shorter and shorter", "a1x", "b2y")(Join(l("a", "b", "c", "d"), l("1", "2", "3"), l("x", "y")))
	gives(t, "from the left, one grows", "xya", "xyb", "xyc")(Join(l("x"), l("y"), l("a", "b", "c")))
	gives(t, "empty items", "a", "")(Join(l("", ""), l("a", "")))
	gives(t, "nothing is looked at", `\*`, `\ `)(Join(l(`\`), l("*", " ")))
}

// modelJoin is the chapter's words on joining, where nothing is too big.
func modelJoin(lists [][]string) []string {
	made := l("")
	for n, next := range lists {
		if len(next) == 0 {
			next = l("")
		}
		if n == 0 {
			made = next
			continue
		}
		var both []string
		switch {
		case len(made) == 1:
			for _, item := range next {
				both = append(both, made[0]+item)
			}
		case len(next) == 1:
			for _, item := range made {
				both = append(both, item+next[0])
			}
		default:
			for i := 0; i < len(made) && i < len(next); i++ {
				both = append(both, made[i]+next[i])
			}
		}
		made = both
	}
	return made
}

func TestJoinAsTheModel(t *testing.T) {
	shapes := [][]string{nil, l(""), l("p"), l("a", "b"), l("1", "2", "3"), l("", "y"), l("u", "v", "w", "z")}
	for _, a := range shapes {
		gives(t, "one", modelJoin([][]string{a})...)(Join(a))
		for _, b := range shapes {
			gives(t, "two", modelJoin([][]string{a, b})...)(Join(a, b))
			for _, c := range shapes {
				gives(t, "three", modelJoin([][]string{a, b, c})...)(Join(a, b, c))
				gives(t, "four", modelJoin([][]string{a, b, c, a})...)(Join(a, b, c, a))
			}
		}
	}
}

func TestJoinAtItsBounds(t *testing.T) {
	full := of(most, "a")
	more := of(most+1, "a")
	gives(t, "alone", full...)(Join(full))
	gives(t, "with one", of(most, "ax")...)(Join(full, l("x")))
	gives(t, "one ahead", of(most, "xa")...)(Join(l("x"), full))
	gives(t, "with as many", of(most, "aa")...)(Join(full, full))
	gives(t, "as long as may be", long(longest)...)(Join(long(longest-1), l("x")))
	gives(t, "as long as may be, with none", long(longest)...)(Join(long(longest), nil, l("")))
	isBig(t, "alone, too many")(Join(more))
	isBig(t, "alone, too long")(Join(long(longest + 1)))
	isBig(t, "too many, with none")(Join(more, nil))
	isBig(t, "none, with too many")(Join(nil, more))
	isBig(t, "too many with one")(Join(more, l("x")))
	isBig(t, "one with too many")(Join(l("x"), more))
	isBig(t, "too many with too many")(Join(more, more))
	isBig(t, "too long")(Join(long(longest), l("x")))
	isBig(t, "too long, the last")(Join(slices.Concat(of(most-1, ""), long(longest)), l("x")))
	isBig(t, "too long of three")(Join(long(longest-1), l("x"), l("x")))
}

// What is handed in may be greater than what comes of it.
func TestJoinOfGreaterOnes(t *testing.T) {
	more := of(most+1, "a")
	gives(t, "too many ahead", "ax", "ay")(Join(more, l("x", "y")))
	gives(t, "too many behind", "xa", "ya")(Join(l("x", "y"), more))
	gives(t, "too many in the middle", "xa1", "ya2")(Join(l("x", "y"), more, l("1", "2", "3")))
	gives(t, "too many with the most", of(most, "aa")...)(Join(more, of(most, "a")))
	gives(t, "too long where it is left out", "a1", "b2")(Join(slices.Concat(l("a", "b"), long(longest+1)), l("1", "2")))
	gives(t, "too long where it is left out, behind", "a1", "b2")(Join(l("a", "b"), slices.Concat(l("1", "2"), long(longest+1))))
}

// What comes in between counts, though a later list would make it small again.
func TestJoinEndsInBetween(t *testing.T) {
	more := of(most+1, "a")
	isBig(t, "too many in between")(Join(more, l("x"), l("1", "2")))
	isBig(t, "too many in between, of none")(Join(more, nil, l("1", "2")))
	isBig(t, "too many in between, none ahead")(Join(nil, more, l("1", "2")))
	isBig(t, "too many in between, both")(Join(more, more, l("1", "2")))
	isBig(t, "too long in between")(Join(l("a", "b", "c"), slices.Concat(l("1", "2"), long(longest)), l("x", "y")))
	gives(t, "just not in between", "ax1", "ax2")(Join(of(most, "a"), l("x"), l("1", "2")))
}

func TestFits(t *testing.T) {
	for what, list := range map[string][]string{
		"nil": nil, "empty": l(), "empty item": l(""), "one less": of(most-1, "a"), "as many as may be": of(most, "a"),
		"as long as may be": long(longest), "both": of(most, long(longest)[0]),
	} {
		if err := Fits(list); err != nil {
			t.Errorf("%s: %v", what, err)
		}
	}
	for what, list := range map[string][]string{
		"one too many": of(most+1, ""), "many": of(1<<20, ""), "too long": long(longest + 1), "much too long": long(1 << 24),
		"the first too long": append(long(longest+1), "a"), "the last too long": append(of(most-1, "a"), long(longest+1)...),
		"bytes, not runes": l(strings.Repeat("é", longest/2) + "a"),
	} {
		if err := Fits(list); err != api.ErrBig {
			t.Errorf("%s: %v", what, err)
		}
	}
}

// P3.2

func TestSplit(t *testing.T) {
	gives(t, "none")(Split(nil))
	gives(t, "nothing in it")(Split(l("", " ", "\t\n", "")))
	gives(t, "one behind the other", "a", "b", "c", "d")(Split(l("a b", "", " c", "d\n")))
	gives(t, "dead blanks stay", `a\ b`, "c", `\`)(Split(l(`a\ b c`, `\`)))
	gives(t, "an item's end does not take life", `a\`, "b", `\\`, "c")(Split(l(`a\`, " b", `\\ c`)))
	gives(t, "patterns stay", "*", "[a", "b]", `\*`)(Split(l("* [a b]", `\*`)))
}

func TestSplitIsThatOfEach(t *testing.T) {
	for _, list := range some(3, "", "a", "a b", ` \ c`, `\`, "\n\t") {
		var want []string
		for _, item := range list {
			want = append(want, pattern.Split(item)...)
		}
		gives(t, "Split", want...)(Split(list))
	}
}

func TestSplitAtItsBounds(t *testing.T) {
	gives(t, "as many as may be", of(most, "a")...)(Split(l(strings.Repeat("a ", most))))
	gives(t, "as many as may be, of two", of(most, "a")...)(Split(l(strings.Repeat("a ", most-1), "a")))
	gives(t, "more items that are nothing", "a")(Split(slices.Concat(of(most+1, " "), l("a"), of(most+1, ""))))
	gives(t, "longer, but not its parts", slices.Concat(long(longest), long(longest))...)(Split(l(strings.Repeat(" ", longest) + long(longest)[0] + "\n" + long(longest)[0])))
	isBig(t, "one too many")(Split(l(strings.Repeat("a ", most+1))))
	isBig(t, "one too many, of two")(Split(l(strings.Repeat("a ", most), " a")))
	isBig(t, "too long")(Split(l("a " + long(longest + 1)[0])))
	isBig(t, "too long by what takes life")(Split(l(strings.Repeat(`\ `, longest/2) + "a")))
}

func TestGlob(t *testing.T) {
	gives(t, "the chapter's", "a.c", "x.c", "q*")(Glob(l("*.c", "q*"), "x.c", "a.c"))
	gives(t, "none")(Glob(nil, "a", "b"))
	gives(t, "no names", "*", "a")(Glob(l("*", `\a`)))
	gives(t, "not live", "*", "a", "", "[]", "b")(Glob(l(`\*`, "a", "", "[]", `\b`), "*", "a", "c"))
	gives(t, "live, none found: plain", "z*?", "[x]")(Glob(l(`z*\?`, "[x]"), "a", "b"))
	gives(t, "each item by itself", "a", "b", "a", "b", "a")(Glob(l("*", "?", "[a]"), "b", "a", "b"))
	gives(t, "rising and once within an item", "a", "b", "c")(Glob(l("*"), "c", "a", "b", "a", "c"))
	gives(t, "dots", "a", ".x")(Glob(l("*", ".*"), ".x", "a"))
	gives(t, "dots alone", "*", ".x")(Glob(l("*", ".*"), ".x"))
	gives(t, "an empty name", "")(Glob(l("*"), ""))
	gives(t, "names are as they are", `\*`, "a b")(Glob(l("*"), "a b", `\*`))
	gives(t, "a part that is dead", "a*b")(Glob(l(`a\**`), "a*b", "axb"))
}

func TestGlobIsThatOfEach(t *testing.T) {
	names := l("b", ".b", "a", "*", "ab", "a")
	for _, list := range some(3, "", "*", "a?", `\*`, "[z]*", ".*", `\`) {
		var want []string
		for _, item := range list {
			found := pattern.Files(item, names...)
			if !pattern.Live(item) || len(found) == 0 {
				found = l(pattern.Plain(item))
			}
			want = append(want, found...)
		}
		gives(t, "Glob", want...)(Glob(list, names...))
	}
}

// numbered is n names, rising.
func numbered(n int) []string {
	var names []string
	for i := range n {
		names = append(names, strings.Repeat("x", i+1))
	}
	return names
}

func TestGlobAtItsBounds(t *testing.T) {
	gives(t, "as many as may be", numbered(most)...)(Glob(l("*"), numbered(most)...))
	gives(t, "more names, few that match", "xx")(Glob(l("??"), numbered(most+50)...))
	gives(t, "as long as may be", long(longest)...)(Glob(l("*"), long(longest)...))
	gives(t, "a longer name that does not match", "a")(Glob(l("?"), "a", long(longest + 1)[0]))
	gives(t, "longer live text, plain", l(strings.Repeat("*", longest))...)(Glob(l(strings.Repeat(`\*`, longest))))
	gives(t, "longer live text, files", "a")(Glob(l(strings.Repeat("*", longest+1)), "a"))
	isBig(t, "one too many")(Glob(l("*"), numbered(most+1)...))
	isBig(t, "one too many, of two")(Glob(l("*", "a"), numbered(most)...))
	isBig(t, "too many items")(Glob(of(most+1, "a")))
	isBig(t, "a name that is too long")(Glob(l("*"), long(longest+1)...))
	isBig(t, "plain, too long")(Glob(long(longest+1), "a"))
	isBig(t, "live, none found, too long")(Glob(l("*"+long(longest)[0]), "a"))
}

func TestPlainAndEsc(t *testing.T) {
	gives(t, "Plain of none")(Plain(nil))
	gives(t, "Esc of none")(Esc(nil))
	gives(t, "Plain", "a*", `\`, "", " b", `\a`, "a b")(Plain(l(`a\*`, `\`, "", `\ b`, `\\\a`, "a b")))
	gives(t, "Esc", `\*`, "a", "", `a\ b`, `\\`, `\[x\]\?`, "\\\n\\\t")(Esc(l("*", "a", "", "a b", `\`, "[x]?", "\n\t")))
	for _, list := range some(3, "", "a", `\`, `\*`, "[a b]", "\n") {
		var plain, escaped []string
		for _, item := range list {
			plain = append(plain, pattern.Plain(item))
			escaped = append(escaped, pattern.Escape(item))
		}
		gives(t, "Plain", plain...)(Plain(list))
		gives(t, "Esc", escaped...)(Esc(list))
		gives(t, "Plain of Esc", list...)(Plain(escaped))
	}
}

func TestPlainAndEscAtTheirBounds(t *testing.T) {
	gives(t, "Plain of the most", of(most, "a")...)(Plain(of(most, `\a`)))
	gives(t, "Esc of the most", of(most, `\*`)...)(Esc(of(most, "*")))
	gives(t, "Plain of longer text", strings.Repeat("*", longest))(Plain(l(strings.Repeat(`\*`, longest))))
	gives(t, "Esc of the longest", strings.Repeat(`\*`, longest/2))(Esc(l(strings.Repeat("*", longest/2))))
	gives(t, "Esc of as it is", long(longest)...)(Esc(long(longest)))
	isBig(t, "Plain of too many")(Plain(of(most+1, "")))
	isBig(t, "Esc of too many")(Esc(of(most+1, "")))
	isBig(t, "Plain, too long")(Plain(l(strings.Repeat(`\*`, longest) + "a")))
	isBig(t, "Plain, the last too long")(Plain(append(of(most-1, "a"), long(longest+1)...)))
	isBig(t, "Esc, too long by what takes life")(Esc(l(strings.Repeat("*", longest/2) + "a")))
	isBig(t, "Esc, too long")(Esc(long(longest + 1)))
}

func TestFlat(t *testing.T) {
	gives(t, "none", "")(Flat(nil))
	gives(t, "empty", "")(Flat(l()))
	gives(t, "one", "a")(Flat(l("a")))
	gives(t, "one empty", "")(Flat(l("")))
	gives(t, "two", "a b")(Flat(l("a", "b")))
	gives(t, "empty ones", "  ")(Flat(l("", "", "")))
	gives(t, "as they are", "a  *\t \\ \n")(Flat(l("a ", "*\t", `\`, "\n")))
}

func TestFlatAtItsBounds(t *testing.T) {
	gives(t, "the longest", long(longest)...)(Flat(long(longest)))
	gives(t, "the longest of two", long(longest - 2)[0]+" b")(Flat(append(long(longest-2), "b")))
	gives(t, "more items than a list has", strings.Repeat(" ", most))(Flat(of(most+1, "")))
	gives(t, "the most empty items", strings.Repeat(" ", longest))(Flat(of(longest+1, "")))
	gives(t, "the longest of many", strings.Repeat("a ", longest/2-1)+"ab")(Flat(append(of(longest/2-1, "a"), "ab")))
	isBig(t, "too long")(Flat(long(longest + 1)))
	isBig(t, "too long by the space")(Flat(append(long(longest), "")))
	isBig(t, "too long of two")(Flat(append(long(longest-1), "b")))
	isBig(t, "too many empty items")(Flat(of(longest+2, "")))
	isBig(t, "too long at last")(Flat(append(of(longest/2, "a"), "ab")))
}

func TestCount(t *testing.T) {
	for _, n := range []int{0, 1, 2, 9, 10, most, most + 1, 12345} {
		want := map[int]string{0: "0", 1: "1", 2: "2", 9: "9", 10: "10", most: "100", most + 1: "101", 12345: "12345"}[n]
		if got := Count(of(n, "")); !slices.Equal(got, l(want)) {
			t.Errorf("Count of %d: %q", n, got)
		}
	}
	if got := Count(nil); !slices.Equal(got, l("0")) {
		t.Error(got)
	}
}

func TestPick(t *testing.T) {
	list := l("a", "", "c")
	for n, want := range list {
		if got := Pick(list, n+1); !slices.Equal(got, l(want)) {
			t.Errorf("Pick %d: %q", n+1, got)
		}
	}
	for _, n := range []int{0, -1, -3, 4, 5, math.MaxInt, math.MaxInt - 1, math.MinInt, math.MinInt + 1, 1 << 32, 1<<32 + 1} {
		if got := Pick(list, n); len(got) != 0 {
			t.Errorf("Pick %d: %q", n, got)
		}
		if got := Pick(nil, n); len(got) != 0 {
			t.Errorf("Pick %d of none: %q", n, got)
		}
	}
	if got := Pick(nil, 1); len(got) != 0 {
		t.Error(got)
	}
	// Pick has no bounds of its own.
	greater := append(of(most, "a"), long(longest+1)...)
	if got := Pick(greater, most+1); !slices.Equal(got, long(longest+1)) {
		t.Error(len(got))
	}
}

func TestTrim(t *testing.T) {
	for s, want := range map[string]string{
		"": "", "\n": "", "\n\n\n": "", "a": "a", "a\n": "a", "a\n\n": "a", "a\nb\n\n": "a\nb", "\na": "\na", "\n\na\n": "\n\na",
		" \n ": " \n ", "a \n": "a ", "a\t\n\n": "a\t", "a\r\n": "a\r", "\n\r\n": "\n\r", "a\\n": "a\\n", "a\x00\n": "a\x00", "\xff\n": "\xff", "é\n\u2028\n": "é\n\u2028",
	} {
		if got := Trim(s); got != want {
			t.Errorf("Trim(%q): %q, not %q", s, got, want)
		}
	}
	if got := Trim(long(longest + 1)[0] + strings.Repeat("\n", longest)); got != long(longest + 1)[0] {
		t.Error(len(got))
	}
}

func TestSame(t *testing.T) {
	all := append(some(3, "", "a", "b"), of(most+1, "a"), of(most+2, "a"), l("A"), l("a\x00"), l("aa"), long(longest+1), long(longest+2))
	for i, a := range all {
		for j, b := range all {
			if got := Same(slices.Clone(a), slices.Clone(b)); got != (i == j) {
				t.Errorf("Same(%.50q, %.50q): %v", a, b, got)
			}
		}
	}
	if !Same(nil, l()) || !Same(l(), nil) || !Same(nil, nil) || Same(l(""), nil) || Same(nil, l("")) || Same(l("ab"), l("a", "b")) {
		t.Error("none, and other borders")
	}
}

// P3.3

// makers is the calls that answer a list, each of two lists.
func makers() map[string]func(a, b []string) []string {
	first := func(made []string, _ error) []string { return made }
	return map[string]func(a, b []string) []string{
		"Cat of two":   func(a, b []string) []string { return first(Cat(a, b)) },
		"Cat of one":   func(a, b []string) []string { return first(Cat(a)) },
		"Cat and none": func(a, b []string) []string { return first(Cat(nil, b, nil)) },
		"Join of two":  func(a, b []string) []string { return first(Join(a, b)) },
		"Join of one":  func(a, b []string) []string { return first(Join(a)) },
		"Join to none": func(a, b []string) []string { return first(Join(nil, a)) },
		"Join none":    func(a, b []string) []string { return first(Join(a, nil)) },
		"no Join":      func(a, b []string) []string { return first(Join()) },
		"Join nothing": func(a, b []string) []string { return first(Join(nil, nil)) },
		"Split":        func(a, b []string) []string { return first(Split(a)) },
		"Glob":         func(a, b []string) []string { return first(Glob(a, b...)) },
		"Glob all":     func(a, b []string) []string { return first(Glob([]string{"*"}, b...)) },
		"Plain":        func(a, b []string) []string { return first(Plain(a)) },
		"Esc":          func(a, b []string) []string { return first(Esc(a)) },
		"Flat":         func(a, b []string) []string { return first(Flat(a)) },
		"Flat of none": func(a, b []string) []string { return first(Flat(nil)) },
		"Count":        func(a, b []string) []string { return Count(a) },
		"Pick":         func(a, b []string) []string { return Pick(a, 2) },
	}
}

// spoil writes over a list and all of its spare room.
func spoil(list []string) {
	all := list[:cap(list)]
	for i := range all {
		all[i] = "spoiled"
	}
}

// Lists handed in have items behind their length, which nobody reads or writes;
// a list handed out is its owner's, down to its spare room.
func TestListsAreNew(t *testing.T) {
	for what, made := range makers() {
		wholeA, wholeB := l("c", "a", "b", "hidden", "hidden"), l("z", "x", "y", "hidden", "hidden")
		a, b := wholeA[:3], wholeB[:3]
		one, other := made(a, b), made(a, b)
		want := slices.Clone(other)
		if len(one) == 0 || !slices.Equal(one, other) || slices.Contains(one, "hidden") {
			t.Errorf("%s: %q, then %q", what, one, other)
		}
		spoil(one)
		if !slices.Equal(other, want) || !slices.Equal(made(a, b), want) {
			t.Errorf("%s: spoiled: %q", what, other)
		}
		if !slices.Equal(wholeA, l("c", "a", "b", "hidden", "hidden")) || !slices.Equal(wholeB, l("z", "x", "y", "hidden", "hidden")) {
			t.Errorf("%s: changed: %q, %q", what, wholeA, wholeB)
		}
		spoil(a)
		spoil(b)
		if !slices.Equal(other, want) {
			t.Errorf("%s: it shows what was handed in: %q", what, other)
		}
	}
}

// The list of lists that is handed on with its dots stays, too.
func TestListsOfListsStay(t *testing.T) {
	for what, call := range map[string]func(...[]string) ([]string, error){"Cat": Cat, "Join": Join} {
		hidden := l("hidden")
		whole := [][]string{l("a", "b"), nil, l("c"), hidden}
		got, err := call(whole[:3]...)
		if err != nil || slices.Contains(got, "hidden") {
			t.Errorf("%s: %q, %v", what, got, err)
		}
		spoil(got)
		if !slices.EqualFunc(whole, [][]string{l("a", "b"), nil, l("c"), l("hidden")}, slices.Equal[[]string]) {
			t.Errorf("%s: %q", what, whole)
		}
	}
}

// An error leaves nothing that a later call could tell.
func TestErrorsLeaveNothing(t *testing.T) {
	a, more := l("a", "b"), of(most+1, "m")
	isBig(t, "Cat")(Cat(a, more))
	isBig(t, "Join")(Join(more, a[:1], a))
	isBig(t, "Glob")(Glob(more, a...))
	isBig(t, "Flat")(Flat(append(slices.Clone(a), long(longest)...)))
	if !Same(a, l("a", "b")) || !Same(more, of(most+1, "m")) {
		t.Error(a)
	}
	gives(t, "Cat after it", "a", "b", "a", "b")(Cat(a, a))
	gives(t, "Join after it", "aa", "bb")(Join(a, a))
}

// One memory handed in many times over counts as that many, and is not laid out
// to see that it is too big.
func TestFarTooBig(t *testing.T) {
	many := of(1<<15, "*")
	huge := strings.Repeat("a", 1<<20)
	isBig(t, "Cat")(Cat(slices.Repeat([][]string{many}, 1<<15)...))
	isBig(t, "Join")(Join(slices.Repeat([][]string{many}, 1<<15)...))
	isBig(t, "Glob")(Glob(many, many...))
	isBig(t, "Glob of names")(Glob(many, numbered(1<<10)...))
	isBig(t, "Flat")(Flat(of(1<<10, huge)))
	isBig(t, "Plain")(Plain(of(1<<10, huge)))
	isBig(t, "Esc")(Esc(of(1<<10, huge)))
	isBig(t, "Split")(Split(of(1<<10, huge)))
	isBig(t, "Join of long ones")(Join(of(1<<10, huge), of(1<<10, huge)))
}

// P3.4

// units is lists of one item, of none, and of n.
func units(n int) [][]string {
	a, b := l("a", "", "c"), l("1", "2", "3")
	return [][]string{nil, l(""), l("x"), a[:n], b[:n]}
}

func TestJoinMayBeGrouped(t *testing.T) {
	for n := 1; n <= 3; n++ {
		for _, a := range units(n) {
			for _, b := range units(n) {
				for _, c := range units(n) {
					grouped(t, Join, a, b, c)
				}
			}
		}
	}
}

func TestCatMayBeGrouped(t *testing.T) {
	all := some(2, "", "a", "b c")
	for _, a := range all {
		for _, b := range all {
			for _, c := range all {
				grouped(t, Cat, a, b, c)
			}
		}
	}
}

// At its bounds it may be grouped where nothing is too big.
func TestTheGreatestMayBeGrouped(t *testing.T) {
	grouped(t, Cat, of(most-2, "a"), l("b"), l("c"))
	grouped(t, Join, long(longest-2), l("b"), l("c"))
	grouped(t, Join, l("a"), of(most, "b"), of(most, "c"))
	grouped(t, Join, l("a"), l("b"), of(most, long(longest - 2)[0]))
}

// grouped holds three lists against all ways of putting two of them first, and
// against nothing put between.
func grouped(t *testing.T, call func(...[]string) ([]string, error), a, b, c []string) {
	t.Helper()
	must := func(got []string, err error) []string {
		t.Helper()
		if err != nil {
			t.Fatalf("%.50q, %.50q, %.50q: %v", a, b, c, err)
		}
		return got
	}
	want := must(call(a, b, c))
	for what, got := range map[string][]string{
		"the first two":   must(call(must(call(a, b)), c)),
		"the last two":    must(call(a, must(call(b, c)))),
		"all":             must(call(must(call(a, b, c)))),
		"each":            must(call(must(call(a)), must(call(b)), must(call(c)))),
		"nothing ahead":   must(call(must(call()), a, b, c)),
		"nothing between": must(call(a, must(call()), b, c)),
		"nothing behind":  must(call(a, b, c, must(call()))),
	} {
		if !slices.Equal(got, want) {
			t.Errorf("%s of %.50q, %.50q, %.50q: %.100q, not %.100q", what, a, b, c, got, want)
		}
	}
}
