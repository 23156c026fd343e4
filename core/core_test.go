package core

import (
	"errors"
	"math"
	"math/rand/v2"
	"regexp"
	"slices"
	"strings"
	"sync"
	"testing"

	"patois/api"
)

// forms is the chapter's table: the children of each kind, w a word, c a command.
var forms = map[int]string{
	api.Lit: "", api.Var: "", api.Cat: "w*", api.Join: "w+",
	api.Split: "w", api.Glob: "w", api.Plain: "w", api.Esc: "w", api.Flat: "w", api.Count: "w",
	api.Pick: "w", api.Sub: "c",
	api.Nop: "", api.Call: "w+", api.Set: "w", api.Seq: "ccc*", api.Pipe: "ccc*", api.If: "ccc",
	api.And: "cc", api.Or: "cc", api.While: "cc", api.Not: "c", api.For: "wc", api.Local: "wc",
	api.Case: "w(wc)*", api.Fun: "c", api.Redir: "wc", api.Here: "wc", api.Eval: "w", api.Frame: "w*c",
}

// allKinds is every kind, and some numbers ahead, between and behind.
func allKinds() []int {
	kinds := []int{math.MinInt, -20, math.MaxInt, 1 << 32}
	for kind := -2; kind < 45; kind++ {
		kinds = append(kinds, kind)
	}
	return kinds
}

func isWord(kind int) bool { return kind >= 1 && kind <= 12 }

func isCommand(kind int) bool { return kind >= 20 && kind <= 37 }

// firstN is the least N that the kind may have.
func firstN(kind int) int {
	if kind == api.Pick || kind == api.Redir {
		return 1
	}
	return 0
}

// someS is a string that the kind may have.
func someS(kind int) string {
	if slices.Contains([]int{api.Var, api.Set, api.For, api.Local, api.Fun}, kind) {
		return "x"
	}
	return ""
}

// mostKids is how many children the tests give a node, where they look at what each is.
const mostKids = 6

// ways is what so many children of each kind are to be, if there can be so many.
var ways = sync.OnceValue(func() map[int]map[int]string {
	all := map[int]map[int]string{}
	for kind, form := range forms {
		all[kind] = map[int]string{}
		fits := regexp.MustCompile("^(" + form + ")$")
		for _, s := range strs(mostKids) {
			if fits.MatchString(s) {
				all[kind][len(s)] = s
			}
		}
	}
	return all
})

// roles is what k children of the kind are to be; false if there cannot be k.
func roles(kind, k int) (string, bool) {
	s, is := ways()[kind][k]
	return s, is
}

// upTo is all lists of up to n of the items.
func upTo[T any](n int, items ...T) [][]T {
	all := [][]T{nil}
	for from := 0; n > 0; n-- {
		to := len(all)
		for _, ahead := range all[from:to] {
			for _, item := range items {
				all = append(all, append(slices.Clone(ahead), item))
			}
		}
		from = to
	}
	return all
}

// strs is all strings of up to n of w and c.
func strs(n int) []string {
	var all []string
	for _, l := range upTo(n, "w", "c") {
		all = append(all, strings.Join(l, ""))
	}
	return all
}

// node is a node of the kind with all that it may have, over these kids.
func node(kind int, kids ...[]api.Node) []api.Node {
	return New(kind, firstN(kind), someS(kind), kids...)
}

func nop() []api.Node { return node(api.Nop) }

// kidsOf is one small tree for each w and c.
func kidsOf(s string) [][]api.Node {
	var kids [][]api.Node
	for _, c := range s {
		if c == 'w' {
			kids = append(kids, Lit("a"))
		} else {
			kids = append(kids, nop())
		}
	}
	return kids
}

// asProgram is the tree itself if it begins with a command, or one that sets a
// variable to it; and the place at which the tree is then.
func asProgram(l []api.Node) ([]api.Node, int) {
	if isWord(l[0].Kind) {
		return New(api.Set, 0, "x", l), 1
	}
	return l, 0
}

// nested is a Nop below so many nodes.
func nested(n int) []api.Node {
	l := make([]api.Node, n+1)
	for i := range n {
		l[i] = api.Node{Kind: api.Not, K: 1, Size: n + 1 - i}
	}
	l[n] = api.Node{Kind: api.Nop, Size: 1}
	return l
}

// isFault checks that Check's answer is the error around the place.
func isFault(t *testing.T, what string, l []api.Node, place int, want error) {
	t.Helper()
	err := Check(l)
	at, is := err.(*api.At)
	if !is || at.Pos != place || at.Err != want || !errors.Is(err, want) {
		t.Errorf("%s: %v, not %d: %v: %v", what, err, place, want, short(l))
	}
}

func isGood(t *testing.T, what string, l []api.Node) {
	t.Helper()
	if err := Check(l); err != nil {
		t.Errorf("%s: %v: %v", what, err, short(l))
	}
}

func short(l []api.Node) []api.Node { return l[:min(len(l), 12)] }

// with is the list with one node changed.
func with(l []api.Node, i int, change func(*api.Node)) []api.Node {
	l = slices.Clone(l)
	change(&l[i])
	return l
}

func withSize(l []api.Node, i, size int) []api.Node {
	return with(l, i, func(n *api.Node) { n.Size = size })
}

func withK(l []api.Node, i, k int) []api.Node {
	return with(l, i, func(n *api.Node) { n.K = k })
}

// grow makes a program, or a word's tree, that may be.
func grow(r *rand.Rand, room int, role byte) []api.Node {
	kind := api.Lit + r.IntN(api.Sub-api.Lit+1)
	if role == 'c' {
		kind = api.Nop + r.IntN(api.Frame-api.Nop+1)
	}
	if room == 1 {
		kind = map[byte]int{'w': api.Lit, 'c': api.Nop}[role]
	}
	s, is := roles(kind, r.IntN(5))
	for !is {
		s, is = roles(kind, r.IntN(5))
	}
	var kids [][]api.Node
	for i := range len(s) {
		kids = append(kids, grow(r, room-1, s[i]))
	}
	return node(kind, kids...)
}

func source() *rand.Rand { return rand.New(rand.NewPCG(5, 5)) }

// lists is all lists of up to n nodes of these kinds, with few K and Sizes.
func lists(n int, kinds ...int) [][]api.Node {
	var nodes []api.Node
	for _, kind := range kinds {
		for k := range 3 {
			for size := range 5 {
				nodes = append(nodes, api.Node{Kind: kind, K: k, Size: size})
			}
		}
	}
	return upTo(n, nodes...)
}

// spoil writes over a list and the spare room behind it.
func spoil(l []api.Node) {
	l = l[:cap(l)]
	for i := range l {
		l[i] = api.Node{Kind: -9, N: -9, K: -9, Size: -9, S: "spoilt"}
	}
}

// hiding is the list with room behind it in which other nodes lie.
func hiding(l []api.Node) []api.Node {
	return append(slices.Clone(l), nop()[0], Lit("hidden")[0])[:len(l)]
}

// P5.1

func TestNew(t *testing.T) {
	got := New(api.Call, 0, "", Lit("echo"), Lit("a"))
	want := []api.Node{{Kind: api.Call, K: 2, Size: 3}, {Kind: api.Lit, Size: 1, S: "echo"}, {Kind: api.Lit, Size: 1, S: "a"}}
	if !slices.Equal(got, want) {
		t.Error(got)
	}
	got = New(api.Seq, 0, "", got, New(api.Nop, 0, ""))
	want = append(append([]api.Node{{Kind: api.Seq, K: 2, Size: 5}}, want...), api.Node{Kind: api.Nop, Size: 1})
	if !slices.Equal(got, want) {
		t.Error(got)
	}
}

func TestNewDoesNotLook(t *testing.T) {
	odd := api.Node{Kind: -7, N: math.MaxInt, K: -3, Size: 1 << 40, S: "\xff"}
	got := New(math.MinInt, -1, "\x00", nil, []api.Node{odd}, []api.Node{}, []api.Node{odd, odd})
	want := []api.Node{{Kind: math.MinInt, N: -1, K: 4, Size: 4, S: "\x00"}, odd, odd, odd}
	if !slices.Equal(got, want) {
		t.Error(got)
	}
	if got := New(0, 0, ""); !slices.Equal(got, []api.Node{{Size: 1}}) {
		t.Error(got)
	}
	if got := New(api.Set, 0, "x", nil); !slices.Equal(got, []api.Node{{Kind: api.Set, K: 1, Size: 1, S: "x"}}) {
		t.Error(got)
	}
	many := New(api.Seq, 5, "s", slices.Repeat([][]api.Node{nested(9)}, 5000)...)
	if len(many) != 50001 || many[0] != (api.Node{Kind: api.Seq, N: 5, K: 5000, Size: 50001, S: "s"}) || !slices.Equal(many[49991:], nested(9)) {
		t.Error(len(many), many[0])
	}
}

func TestLit(t *testing.T) {
	for _, s := range []string{"", "a", "a b\n*\\", "\xff\x00", strings.Repeat("x", api.MaxString+1)} {
		if got := Lit(s); !slices.Equal(got, []api.Node{{Kind: api.Lit, Size: 1, S: s}}) {
			t.Error(got)
		}
	}
}

func TestSeq(t *testing.T) {
	a, b := nested(1), nested(2)
	cases := []struct{ got, want []api.Node }{
		{Seq(), []api.Node{{Kind: api.Nop, Size: 1}}},
		{Seq(nil), nil},
		{Seq(a), a},
		{Seq(Lit("w")), Lit("w")},
		{Seq(a, b), slices.Concat([]api.Node{{Kind: api.Seq, K: 2, Size: 6}}, a, b)},
		{Seq(nop(), nop()), New(api.Seq, 0, "", nop(), nop())},
		{Seq(Seq(a, b), a), New(api.Seq, 0, "", New(api.Seq, 0, "", a, b), a)},
		{Seq(a, b, a), New(api.Seq, 0, "", a, b, a)},
		{Seq(nil, nil), []api.Node{{Kind: api.Seq, K: 2, Size: 1}}},
	}
	for i, c := range cases {
		if !slices.Equal(c.got, c.want) {
			t.Errorf("%d: %v, not %v", i, c.got, c.want)
		}
	}
}

func TestSize(t *testing.T) {
	for n := range 50 {
		if got := Size(make([]api.Node, n, n+3)); got != n {
			t.Error(got, n)
		}
	}
	if Size(nil) != 0 || Size(nested(9)) != 10 {
		t.Error(Size(nested(9)))
	}
}

// P5.2

func TestCheckExamples(t *testing.T) {
	isGood(t, "a call", New(api.Call, 0, "", Lit("echo"), Lit("a")))
	isFault(t, "a Seq of one", New(api.Seq, 0, "", nop()), 0, api.ErrNode)
	isFault(t, "an If of a word", New(api.If, 0, "", Lit("a"), nop(), nop()), 1, api.ErrNode)
}

func TestCheckMany(t *testing.T) {
	call := New(api.Call, 0, "", slices.Repeat([][]api.Node{Lit("a")}, api.MaxNodes-1)...)
	isGood(t, "as many as may be", call)
	for what, l := range map[string][]api.Node{
		"nil":              nil,
		"empty":            {},
		"one too many":     New(api.Call, 0, "", slices.Repeat([][]api.Node{Lit("a")}, api.MaxNodes)...),
		"no nodes at all":  make([]api.Node, api.MaxNodes+1),
		"far too many":     nested(1 << 18),
		"one behind a may": append(call, nop()...),
		"empty, hiding":    hiding(nil),
	} {
		if err := Check(l); err != api.ErrMany {
			t.Errorf("%s: %v", what, err)
		}
	}
	isFault(t, "as many as may be, too deep", nested(api.MaxNodes-1), api.MaxNest, api.ErrNest)
	isFault(t, "as many as may be, and no nodes", make([]api.Node, api.MaxNodes), 0, api.ErrNode)
}

// firstWrong is where the children s of a kind are first not what they are to
// be, as a place in the node's tree; -1 if they are all.
func firstWrong(kind int, s string) int {
	want, is := roles(kind, len(s))
	if !is {
		return 0
	}
	for i := range len(s) {
		if s[i] != want[i] {
			return 1 + i
		}
	}
	return -1
}

func TestCheckChildren(t *testing.T) {
	for _, kind := range allKinds() {
		for _, s := range strs(mostKids) {
			l, place := asProgram(node(kind, kidsOf(s)...))
			if wrong := firstWrong(kind, s); wrong >= 0 {
				isFault(t, s, l, place+wrong, api.ErrNode)
			} else {
				isGood(t, s, l)
			}
		}
	}
}

func TestCheckWhatStandsWhere(t *testing.T) {
	for _, kind := range allKinds() {
		k := 0
		s, is := roles(kind, k)
		for ; !is && k < 4; k++ {
			s, is = roles(kind, k)
		}
		l := node(kind, kidsOf(s)...)
		isSet, isNot := New(api.Set, 0, "x", l), New(api.Not, 0, "", l)
		if isWord(kind) {
			isGood(t, "a word below Set", isSet)
		} else {
			isFault(t, "no word below Set", isSet, 1, api.ErrNode)
		}
		if isCommand(kind) {
			isGood(t, "a command", l)
			isGood(t, "a command below Not", isNot)
		} else {
			isFault(t, "no command", l, 0, api.ErrNode)
			isFault(t, "no command below Not", isNot, 1, api.ErrNode)
		}
	}
}

// small is the tree of each kind with the fewest children that it may have.
func small() map[int][]api.Node {
	all := map[int][]api.Node{}
	for kind := range forms {
		for k := 3; k >= 0; k-- {
			if s, is := roles(kind, k); is {
				all[kind] = node(kind, kidsOf(s)...)
			}
		}
	}
	return all
}

func TestCheckNumbers(t *testing.T) {
	last := map[int]int{api.Lit: 1, api.Pick: 99, api.Redir: 3}
	numbers := []int{math.MinInt, math.MaxInt, 1 << 32, 1<<32 + 1}
	for n := -3; n < 105; n++ {
		numbers = append(numbers, n)
	}
	for kind, tree := range small() {
		for _, number := range numbers {
			l, place := asProgram(with(tree, 0, func(n *api.Node) { n.N = number }))
			if firstN(kind) <= number && number <= last[kind] {
				isGood(t, "number", l)
			} else {
				isFault(t, "number", l, place, api.ErrNode)
			}
		}
	}
}

func TestCheckStrings(t *testing.T) {
	longName, longest := strings.Repeat("n", api.MaxName), strings.Repeat("s", api.MaxString)
	const nothing, star, name, other, tooLong = 0, 1, 2, 3, 4
	cases := []struct {
		s    string
		what int
	}{
		{"", nothing}, {"*", star}, {"x", name}, {"_x9", name}, {longName, name},
		{"9", other}, {"a-", other}, {"**", other}, {" ", other}, {"x ", other}, {"\x00", other}, {"\xff", other}, {"x*", other},
		{longName + "n", other}, {longest, other}, {longest[1:] + `\`, other}, {longest + "s", tooLong}, {longest + "ss", tooLong},
	}
	for kind, tree := range small() {
		for _, c := range cases {
			l, place := asProgram(with(tree, 0, func(n *api.Node) { n.S = c.s }))
			may := c.what == nothing
			switch kind {
			case api.Lit:
				may = c.what != tooLong
			case api.Var:
				may = c.what == name || c.what == star
			case api.Set, api.For, api.Local, api.Fun:
				may = c.what == name
			}
			if may {
				isGood(t, "string", l)
			} else {
				isFault(t, "string", l, place, api.ErrNode)
			}
		}
	}
}

func TestCheckLiveText(t *testing.T) {
	cases := map[string]bool{
		"": true, "a": true, "*": true, "[": true, `\`: false, `\\`: true, `\\\`: false, `\a`: true, `a\`: false, `\*\`: false,
		strings.Repeat("a", api.MaxString): true, strings.Repeat("a", api.MaxString+1): false,
		strings.Repeat(`\`, api.MaxString): true, strings.Repeat(`\`, api.MaxString-1): false,
	}
	for s, may := range cases {
		l := New(api.Set, 0, "x", New(api.Lit, 1, s))
		if may {
			isGood(t, "live", l)
		} else {
			isFault(t, "live", l, 1, api.ErrNode)
		}
	}
}

func TestCheckCounts(t *testing.T) {
	for _, tree := range small() {
		for _, k := range []int{math.MinInt, -2, -1, 7, 8, 1 << 32, math.MaxInt - 1, math.MaxInt} {
			l, place := asProgram(withK(tree, 0, k))
			isFault(t, "count", l, place, api.ErrNode)
		}
		l, place := asProgram(withK(tree, 0, tree[0].K+1))
		isFault(t, "one more than there are", l, place, api.ErrNode)
	}
	call := New(api.Call, 0, "", Lit("a"), Lit("b"), Lit("c"))
	isFault(t, "one fewer than there are: the last one ends too early", withK(call, 0, 2), 2, api.ErrNode)
	isFault(t, "two fewer than there are", withK(call, 0, 1), 1, api.ErrNode)
	cat := New(api.Set, 0, "x", New(api.Cat, 0, "", Lit("a")))
	isFault(t, "none, but with a Size", withK(cat, 1, 0), 1, api.ErrNode)
}

func TestCheckSizeOfTheFirst(t *testing.T) {
	call := New(api.Call, 0, "", Lit("echo"), Lit("a"))
	for _, size := range []int{math.MinInt, -3, -1, 0, 1, 2, 4, 5, 1 << 32, math.MaxInt} {
		isFault(t, "the first node's Size", withSize(call, 0, size), 0, api.ErrNode)
		isFault(t, "that of one alone", withSize(nop(), 0, size-size%2), 0, api.ErrNode)
	}
	isFault(t, "a program and one node more", append(slices.Clone(call), nop()...), 0, api.ErrNode)
	isFault(t, "two programs", append(slices.Clone(call), call...), 0, api.ErrNode)
	isFault(t, "not all of it", call[:2], 0, api.ErrNode)
}

func TestCheckSizeOfChildren(t *testing.T) {
	call := New(api.Call, 0, "", Lit("echo"), Lit("a"), Lit("b"))
	for _, size := range []int{math.MinInt, -1, 0} {
		for i := 1; i < 4; i++ {
			isFault(t, "below 1", withSize(call, i, size), i, api.ErrNode)
			isFault(t, "below 1, and more told than could be gone through", withK(withSize(call, i, size), 0, math.MaxInt), i, api.ErrNode)
		}
	}
	for _, size := range []int{2, 3, 4, 1 << 32, math.MaxInt - 1, math.MaxInt} {
		isFault(t, "the last one past its parent's end", withSize(call, 3, size), 3, api.ErrNode)
		isFault(t, "no place for the last one", withSize(call, 2, size), 0, api.ErrNode)
		isFault(t, "no place for the last two", withSize(call, 1, max(size, 3)), 0, api.ErrNode)
	}
	isFault(t, "no place for the third", withSize(call, 1, 2), 0, api.ErrNode)
	seq := New(api.Seq, 0, "", call, nop())
	isFault(t, "its own last child does not fit", withSize(seq, 1, 3), 1, api.ErrNode)
	isFault(t, "no place for the next one", withSize(seq, 1, 5), 0, api.ErrNode)
	isFault(t, "past its parent's end, not the list's", withSize(seq, 4, 2), 4, api.ErrNode)
}

func TestCheckWhereTheLastEnds(t *testing.T) {
	not := New(api.Not, 0, "", New(api.Not, 0, "", nop()))
	isGood(t, "three", not)
	isFault(t, "the last child ends too early", withSize(not, 1, 1), 1, api.ErrNode)
	stray := []api.Node{{Kind: api.Seq, K: 2, Size: 4}, nop()[0], nop()[0], nop()[0]}
	isFault(t, "the last of two ends too early", stray, 2, api.ErrNode)
	isFault(t, "one without children has a stray behind it", withSize(stray, 1, 2), 1, api.ErrNode)
	stray = append(stray, nop()...)
	isFault(t, "the same, and it is not what is looked at first", withSize(withSize(stray, 0, 5), 1, 2), 1, api.ErrNode)
}

func TestCheckDeep(t *testing.T) {
	for n := range api.MaxNest {
		isGood(t, "not too deep", nested(n))
	}
	for n := api.MaxNest; n < 2*api.MaxNest; n++ {
		isFault(t, "too deep", nested(n), api.MaxNest, api.ErrNest)
	}
	word := Lit("a")
	for range api.MaxNest - 2 {
		word = New(api.Flat, 0, "", word)
	}
	isGood(t, "a word not too deep", New(api.Set, 0, "x", word))
	isFault(t, "a word too deep", New(api.Set, 0, "x", New(api.Flat, 0, "", word)), api.MaxNest, api.ErrNest)
	deepest := nested(api.MaxNest - 2)
	isGood(t, "wide, not too deep", New(api.Pipe, 0, "", deepest, deepest, deepest))
	isFault(t, "too deep in the third", New(api.Pipe, 0, "", nop(), deepest, nested(api.MaxNest)), 2+len(deepest)+api.MaxNest-1, api.ErrNest)
}

func TestCheckDeepAndWrong(t *testing.T) {
	deep := nested(api.MaxNest)
	bad := func(n *api.Node) { n.N = 5 }
	isFault(t, "the same node", with(deep, api.MaxNest, bad), api.MaxNest, api.ErrNode)
	isFault(t, "an earlier one", with(deep, api.MaxNest-1, bad), api.MaxNest-1, api.ErrNode)
	isFault(t, "a later one", New(api.Seq, 0, "", deep, Lit("a")), api.MaxNest, api.ErrNest)
	isFault(t, "a later one below", with(nested(api.MaxNest+1), api.MaxNest+1, bad), api.MaxNest, api.ErrNest)
	isFault(t, "the same node, by its children", withSize(New(api.Not, 0, "", deep), api.MaxNest, 1), api.MaxNest, api.ErrNode)
	deeper := nested(api.MaxNest + 1)
	deeper[api.MaxNest] = api.Node{Kind: api.Seq, K: 2, Size: 2}
	isFault(t, "the same node, one child has no place", deeper, api.MaxNest, api.ErrNode)
}

// modelCheck finds every node that may not be, from the top down, and tells the
// first.
func modelCheck(l []api.Node) (int, error) {
	faults := map[int]error{}
	var look func(at, end, depth int, role byte, last bool)
	look = func(at, end, depth int, role byte, last bool) {
		n := l[at]
		want, is := roles(n.Kind, n.K)
		is = is && n.N == firstN(n.Kind) && (n.Kind == api.Lit || n.S == someS(n.Kind))
		is = is && (role == 'w' && isWord(n.Kind) || role == 'c' && isCommand(n.Kind))
		is = is && n.Size >= 1 && at+n.Size <= end && (!last || at+n.Size == end) && (n.K > 0 || n.Size == 1)
		if !is {
			faults[at] = api.ErrNode
			return
		}
		if depth > api.MaxNest {
			faults[at] = api.ErrNest
		}
		next := at + 1
		for k := range n.K {
			if next >= at+n.Size {
				faults[at] = api.ErrNode
				return
			}
			look(next, at+n.Size, depth+1, want[k], k == n.K-1)
			if l[next].Size < 1 {
				return
			}
			next += l[next].Size
		}
	}
	look(0, len(l), 1, 'c', true)
	for i := range l {
		if faults[i] != nil {
			return i, faults[i]
		}
	}
	return 0, nil
}

func checkAsTheModel(t *testing.T, l []api.Node) {
	t.Helper()
	if place, want := modelCheck(l); want != nil {
		isFault(t, "as the model", l, place, want)
	} else {
		isGood(t, "as the model", l)
	}
}

func TestCheckAsTheModel(t *testing.T) {
	for _, l := range lists(3, api.Lit, api.Nop, api.Not, api.Seq)[1:] {
		checkAsTheModel(t, l)
	}
	for _, l := range lists(2, api.Lit, api.Cat, api.Flat, api.Call)[1:] {
		checkAsTheModel(t, New(api.Eval, 0, "", l))
	}
}

func TestCheckGrownProgramsAsTheModel(t *testing.T) {
	r := source()
	for range 3000 {
		l := grow(r, 1+r.IntN(5), 'c')
		if len(l) > 200 {
			continue
		}
		isGood(t, "grown", l)
		for range 10 {
			i, j := r.IntN(len(l)), r.IntN(len(l))
			checkAsTheModel(t, withSize(l, i, l[i].Size+r.IntN(7)-3))
			checkAsTheModel(t, withSize(withSize(l, i, l[i].Size+1), j, l[j].Size-1))
			checkAsTheModel(t, withK(l, i, l[i].K+r.IntN(3)-1))
			checkAsTheModel(t, with(l, i, func(n *api.Node) { n.Kind = r.IntN(40) }))
			checkAsTheModel(t, l[:i+1])
			checkAsTheModel(t, slices.Insert(slices.Clone(l), i, l[j]))
		}
	}
}

// P5.3

// modelKids is the chapter's words on children.
func modelKids(l []api.Node) [][]api.Node {
	var kids [][]api.Node
	if len(l) == 0 {
		return nil
	}
	left := l[1:]
	if l[0].Size < 1 {
		left = nil
	} else if l[0].Size < len(l) {
		left = l[1:l[0].Size]
	}
	for len(kids) < l[0].K && len(left) > 0 && left[0].Size >= 1 && left[0].Size <= len(left) {
		kids = append(kids, left[:left[0].Size])
		left = left[left[0].Size:]
	}
	return kids
}

func modelDepth(l []api.Node) int {
	if len(l) == 0 {
		return 0
	}
	deepest := 0
	for _, kid := range modelKids(l) {
		deepest = max(deepest, modelDepth(kid))
	}
	return 1 + deepest
}

func sameKids(a, b [][]api.Node) bool {
	return slices.EqualFunc(a, b, slices.Equal[[]api.Node])
}

func TestKids(t *testing.T) {
	a, b, c := Lit("a"), New(api.Flat, 0, "", Lit("b")), nested(3)
	cases := []struct {
		l    []api.Node
		want [][]api.Node
	}{
		{nil, nil},
		{[]api.Node{}, nil},
		{a, nil},
		{b, [][]api.Node{Lit("b")}},
		{New(api.Call, 0, "", a, b, a), [][]api.Node{a, b, a}},
		{New(api.Frame, 0, "", b, b, c), [][]api.Node{b, b, c}},
		{c, [][]api.Node{nested(2)}},
		{New(-5, -5, "", a, c, b), [][]api.Node{a, c, b}},
	}
	for i, c := range cases {
		if got := Kids(c.l); !sameKids(got, c.want) {
			t.Errorf("%d: %v, not %v", i, got, c.want)
		}
	}
}

func TestKidsOfNoProgram(t *testing.T) {
	a, b := Lit("a"), New(api.Flat, 0, "", Lit("b"))
	call := New(api.Call, 0, "", a, b, a)
	cases := map[string]struct {
		l    []api.Node
		want int
	}{
		"all":                             {call, 3},
		"the list ends early":             {call[:4], 2},
		"the list ends within one":        {call[:3], 1},
		"one node alone":                  {call[:1], 0},
		"the first ends early":            {withSize(call, 0, 4), 2},
		"the first ends within one":       {withSize(call, 0, 3), 1},
		"the first is itself alone":       {withSize(call, 0, 1), 0},
		"the first has no Size":           {withSize(call, 0, 0), 0},
		"the first has one below 0":       {withSize(call, 0, math.MinInt), 0},
		"the first ends late":             {withSize(call, 0, math.MaxInt), 3},
		"a child has no Size":             {withSize(call, 2, 0), 1},
		"a child has one below 0":         {withSize(call, 2, math.MinInt), 1},
		"a child ends late":               {withSize(call, 2, 4), 1},
		"a child ends far too late":       {withSize(call, 2, math.MaxInt), 1},
		"a child takes what is behind it": {withSize(call, 2, 3), 2},
		"a child ends early":              {withSize(call, 2, 1), 3},
		"fewer are told":                  {withK(call, 0, 2), 2},
		"none are told":                   {withK(call, 0, 0), 0},
		"fewer than none are told":        {withK(call, 0, math.MinInt), 0},
		"more are told":                   {withK(call, 0, math.MaxInt), 3},
		"behind the first's end":          {append(slices.Clone(call), a...), 3},
		"more told, more behind its end":  {append(withK(call, 0, 4), a...), 3},
		"within the list, not the first":  {append(withSize(call, 4, 2), a...), 2},
	}
	for what, c := range cases {
		got := Kids(c.l)
		if len(got) != c.want || !sameKids(got, modelKids(c.l)) {
			t.Errorf("%s: %v", what, got)
		}
	}
}

func kidsAndDepthAsTheModel(t *testing.T, l []api.Node) {
	t.Helper()
	if got := Kids(l); !sameKids(got, modelKids(l)) {
		t.Error(l, got)
	}
	if got := Depth(l); got != modelDepth(l) {
		t.Error(l, got)
	}
}

func TestKidsAndDepthAsTheModel(t *testing.T) {
	for _, l := range lists(3, api.Lit, api.Nop) {
		kidsAndDepthAsTheModel(t, l)
	}
	r := source()
	for range 20000 {
		l := make([]api.Node, r.IntN(9))
		for i := range l {
			l[i] = api.Node{Kind: i, K: r.IntN(5) - 1, Size: r.IntN(len(l)+3) - 1}
		}
		kidsAndDepthAsTheModel(t, l)
	}
}

func TestDepth(t *testing.T) {
	a := Lit("a")
	cases := []struct {
		l    []api.Node
		want int
	}{
		{nil, 0}, {[]api.Node{}, 0}, {a, 1}, {nop(), 1}, {make([]api.Node, 3), 1},
		{New(api.Call, 0, "", a, New(api.Flat, 0, "", a), a), 3},
		{New(api.Seq, 0, "", nested(4), nested(2)), 6},
		{New(api.Seq, 0, "", nested(2), nested(4)), 6},
		{append(nop(), nested(4)...), 1},
		{append(nested(1), nested(4)...), 2},
	}
	for i, c := range cases {
		if got := Depth(c.l); got != c.want {
			t.Error(i, got, c.want)
		}
	}
	for n := range 3 * api.MaxNest {
		if got := Depth(nested(n)); got != n+1 {
			t.Error(n, got)
		}
	}
}

func TestDepthOfMany(t *testing.T) {
	if got := Depth(nested(1 << 20)); got != 1<<20+1 {
		t.Error(got)
	}
	if got := Depth(New(api.Seq, 0, "", slices.Repeat([][]api.Node{nested(9)}, 1<<16)...)); got != 11 {
		t.Error(got)
	}
}

func TestWordAndCommand(t *testing.T) {
	for _, kind := range allKinds() {
		if Word(kind) != isWord(kind) || Command(kind) != isCommand(kind) {
			t.Error(kind)
		}
	}
	for kind := range forms {
		if Word(kind) == Command(kind) {
			t.Error(kind)
		}
	}
}

func TestSame(t *testing.T) {
	l := New(api.For, 0, "x", Lit("a"), nested(2))
	if !Same(l, slices.Clone(l)) || !Same(nil, []api.Node{}) || !Same(hiding(l), l) || !Same(l, l) {
		t.Error("the same")
	}
	changes := []func(*api.Node){
		func(n *api.Node) { n.Kind++ }, func(n *api.Node) { n.N++ }, func(n *api.Node) { n.K++ },
		func(n *api.Node) { n.Size++ }, func(n *api.Node) { n.S += "x" },
	}
	for i := range l {
		for _, change := range changes {
			if other := with(l, i, change); Same(l, other) || Same(other, l) {
				t.Error(other)
			}
		}
		if Same(l, l[:i]) || Same(l[:i], l) {
			t.Error(i)
		}
	}
	if Same(New(api.Seq, 0, "", nop(), nested(1)), New(api.Seq, 0, "", nested(1), nop())) {
		t.Error("another order")
	}
}

func TestHas(t *testing.T) {
	call := New(api.Call, 0, "", Lit("a"), New(api.Flat, 0, "", New(api.Var, 0, "x")), New(-3, 0, ""))
	in := []int{api.Call, api.Lit, api.Flat, api.Var, -3}
	for _, kind := range allKinds() {
		is := slices.Contains(in, kind)
		if Has(call, kind) != is || Has(call, api.Sub, kind) != is || Has(call, kind, api.Sub, api.Sub) != is {
			t.Error(kind)
		}
		if !Has(call, kind, api.Var) || Has(nil, kind) || Has([]api.Node{}, kind, kind) {
			t.Error(kind)
		}
	}
	if Has(call) || Has(nil) {
		t.Error("of no kinds")
	}
	if hid := hiding(call); Has(hid, api.Nop) {
		t.Error("behind the list")
	}
	if stray := append(nop(), Lit("a")...); !Has(stray, api.Lit) {
		t.Error("any node of the list is one")
	}
}

func TestText(t *testing.T) {
	for _, s := range []string{"", "a", `\`, "a b", "\x00\xff", strings.Repeat("x", api.MaxString+1)} {
		if got, is := Text(Lit(s)); got != s || !is {
			t.Errorf("%.20q: %.20q, %v", s, got, is)
		}
	}
	if got, is := Text(hiding(Lit("a"))); got != "a" || !is {
		t.Error(got, is)
	}
	a := Lit("a")
	none := [][]api.Node{nil, {}, New(api.Lit, 1, "a"), New(api.Lit, -1, "a"), append(a, a...), New(api.Cat, 0, "", a), New(0, 0, "a")}
	for kind := range forms {
		if kind != api.Lit {
			none = append(none, New(kind, 0, "a"))
		}
	}
	for _, l := range none {
		if got, is := Text(l); got != "" || is {
			t.Error(l, got, is)
		}
	}
}

// P5.4

func TestListsAreNew(t *testing.T) {
	a, b := New(api.Flat, 0, "", Lit("a")), nested(3)
	call := New(api.Call, 0, "", a, b, a)
	makes := map[string]func() [][]api.Node{
		"New":        func() [][]api.Node { return [][]api.Node{New(api.Call, 0, "", a, b, a)} },
		"New of one": func() [][]api.Node { return [][]api.Node{New(api.Not, 0, "", b)} },
		"Lit":        func() [][]api.Node { return [][]api.Node{Lit("a")} },
		"Seq()":      func() [][]api.Node { return [][]api.Node{Seq()} },
		"Seq(a)":     func() [][]api.Node { return [][]api.Node{Seq(b)} },
		"Seq(a, b)":  func() [][]api.Node { return [][]api.Node{Seq(a, b)} },
		"Kids":       func() [][]api.Node { return Kids(call) },
	}
	args := [][]api.Node{slices.Clone(a), slices.Clone(b), slices.Clone(call)}
	for what, call := range makes {
		first := call()
		var want [][]api.Node
		for _, l := range first {
			want = append(want, slices.Clone(l))
		}
		second := call()
		for i := range second {
			spoil(second[i])
			second[i] = nil
		}
		if !sameKids(first, want) || !sameKids(call(), want) {
			t.Errorf("%s: another answer shows it", what)
		}
		for i, l := range first {
			spoil(l)
			if !sameKids(first[i+1:], want[i+1:]) {
				t.Errorf("%s: a list of the same answer shows it", what)
			}
		}
	}
	if !sameKids(args, [][]api.Node{a, b, call}) {
		t.Error("an argument shows it")
	}
}

func TestKidsStandApart(t *testing.T) {
	l := New(api.Call, 0, "", nested(1), Lit("b"), nested(2))
	kids := Kids(l)
	_ = append(kids[0], Lit("more")...)
	_ = append(kids[1], Lit("more")...)
	if !sameKids(kids, [][]api.Node{nested(1), Lit("b"), nested(2)}) || !sameKids(Kids(l), kids) {
		t.Error(kids)
	}
}

func TestArgumentsStay(t *testing.T) {
	a, b := hiding(nested(2)), hiding(Lit("b"))
	all := slices.Clone(a[:cap(a)])
	for range 3 {
		l := New(api.Seq, 0, "", a, b, a)
		if len(l) != 8 || !slices.Equal(l[1:4], nested(2)) || !slices.Equal(l[4:5], Lit("b")) {
			t.Error(l)
		}
		Seq(a)
		Seq(a, b)
		Kids(a)
		Depth(a)
		Same(a, b)
		Has(a, api.Lit)
		Text(a)
		if err := Check(a); err != nil {
			t.Error(err)
		}
		if !slices.Equal(a[:cap(a)], all) {
			t.Error(a[:cap(a)])
		}
	}
	cut := New(api.Call, 0, "", Lit("a"), Lit("b"))
	if got := Kids(cut[:2]); !sameKids(got, [][]api.Node{Lit("a")}) || Depth(cut[:1]) != 1 {
		t.Error(got)
	}
}

func TestWhatIsHandedInIsNotKept(t *testing.T) {
	a, kinds := nested(2), []int{api.Nop}
	one, two, kids := Seq(a), New(api.Not, 0, "", a), Kids(a)
	err := Check(with(a, 2, func(n *api.Node) { n.N = 1 }))
	Has(a, kinds...)
	spoil(a)
	if !slices.Equal(one, nested(2)) || !slices.Equal(two, nested(3)) || !slices.Equal(kids[0], nested(1)) {
		t.Error(one, two, kids)
	}
	if at, is := err.(*api.At); !is || at.Pos != 2 || kinds[0] != api.Nop {
		t.Error(err)
	}
}

// P5.5

func TestNewOfKidsIsTheProgram(t *testing.T) {
	trees := []([]api.Node){nop(), nested(api.MaxNest - 1), New(api.Redir, 3, "", New(api.Lit, 1, `\*`), nop())}
	for _, tree := range small() {
		trees = append(trees, tree)
	}
	r := source()
	for range 1000 {
		trees = append(trees, grow(r, 1+r.IntN(6), 'c'))
	}
	for _, l := range trees {
		for len(l) > 0 {
			kids := Kids(l)
			if made := New(l[0].Kind, l[0].N, l[0].S, kids...); !Same(made, l) || len(kids) != l[0].K {
				t.Fatal(short(l), short(made))
			}
			if len(kids) == 0 {
				break
			}
			l = kids[r.IntN(len(kids))]
		}
	}
}
