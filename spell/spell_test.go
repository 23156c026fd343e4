package spell

import (
	"errors"
	"math"
	"math/rand/v2"
	"slices"
	"strconv"
	"strings"
	"testing"

	"patois/api"
	"patois/core"
)

// names is the chapter's list, in the order of the numbers.
const names = "lit var cat join split glob plain esc flat count pick sub nop call set seq if and or not while for case fun pipe redir here local eval frame"

// kinds is the numbers of the names.
func kinds() []int {
	var all []int
	for kind := api.Lit; kind <= api.Sub; kind++ {
		all = append(all, kind)
	}
	for kind := api.Nop; kind <= api.Frame; kind++ {
		all = append(all, kind)
	}
	return all
}

func nameOf(kind int) string { return strings.Fields(names)[slices.Index(kinds(), kind)] }

// hasS is whether the kind's S is told.
func hasS(kind int) bool {
	return slices.Contains([]int{api.Lit, api.Var, api.Set, api.For, api.Fun, api.Local}, kind)
}

// quoteModel says by the chapter's words what is quoted, byte by byte.
func quoteModel(s string) string {
	out := `"`
	for _, c := range []byte(s) {
		if c == '"' || c == '\\' || c < 32 || c > 126 {
			hex := "0" + strconv.FormatInt(int64(c), 16)
			out += `\` + hex[len(hex)-2:]
		} else {
			out += string(rune(c))
		}
	}
	return out + `"`
}

// printModel is the text of any tree, whether it may be or not.
func printModel(l []api.Node) string {
	out := "(" + nameOf(l[0].Kind)
	if l[0].N != 0 {
		out += " " + strconv.Itoa(l[0].N)
	}
	if hasS(l[0].Kind) {
		out += " " + quoteModel(l[0].S)
	}
	for _, kid := range core.Kids(l) {
		out += " " + printModel(kid)
	}
	return out + ")"
}

func nop() []api.Node { return core.New(api.Nop, 0, "") }

func not(l []api.Node) []api.Node { return core.New(api.Not, 0, "", l) }

// nested is l below so many nodes of the kind.
func nested(kind, n int, l []api.Node) []api.Node {
	for range n {
		l = core.New(kind, 0, "", l)
	}
	return l
}

// wide is a command over so many Nops.
func wide(n int) []api.Node {
	return core.New(api.Seq, 0, "", slices.Repeat([][]api.Node{nop()}, n)...)
}

// hiding is l with nodes behind its length.
func hiding(l []api.Node) []api.Node {
	behind := append(slices.Clone(l), nop()...)
	behind = append(behind, core.Lit("behind")...)
	return behind[:len(l)]
}

// spoil writes over all that is in the list, and into its spare room.
func spoil(l []api.Node) {
	l = l[:cap(l)]
	for i := range l {
		l[i] = api.Node{Kind: -1, N: -1, K: -1, Size: -1, S: "spoilt"}
	}
}

// random makes trees that may be.
type random struct{ *rand.Rand }

func (r random) oneOf(l []int) int { return l[r.IntN(len(l))] }

func (r random) str() string {
	b := make([]byte, r.IntN(6))
	for i := range b {
		b[i] = byte(r.IntN(256))
	}
	return string(b)
}

func (r random) name() string {
	return []string{"x", "_", "A9", "long_name_of_20bytes"}[r.IntN(4)]
}

// some is up to n more than least trees made so.
func (r random) some(least, n int, one func(int) []api.Node, depth int) [][]api.Node {
	var all [][]api.Node
	for range least + r.IntN(n+1) {
		all = append(all, one(depth))
	}
	return all
}

func (r random) word(depth int) []api.Node {
	kind := r.oneOf(kinds()[:12])
	if depth == 0 {
		kind = r.oneOf([]int{api.Lit, api.Var, api.Cat})
	}
	switch kind {
	case api.Lit:
		if r.IntN(2) == 0 {
			return core.New(kind, 1, []string{"", "a*", `\*"`, "\\\n"}[r.IntN(4)])
		}
		return core.Lit(r.str())
	case api.Var:
		return core.New(kind, 0, []string{"*", r.name()}[r.IntN(2)])
	case api.Cat:
		return core.New(kind, 0, "", r.some(0, min(depth, 3), r.word, max(depth-1, 0))...)
	case api.Join:
		return core.New(kind, 0, "", r.some(1, 2, r.word, depth-1)...)
	case api.Pick:
		return core.New(kind, 1+r.IntN(99), "", r.word(depth-1))
	case api.Sub:
		return core.New(kind, 0, "", r.command(depth-1))
	}
	return core.New(kind, 0, "", r.word(depth-1))
}

func (r random) command(depth int) []api.Node {
	kind := r.oneOf(kinds()[12:])
	if depth == 0 {
		kind = api.Nop
	}
	n, s := 0, ""
	if kind == api.Redir {
		n = 1 + r.IntN(3)
	}
	if hasS(kind) {
		s = r.name()
	}
	var kids [][]api.Node
	words := func(least, more int) { kids = append(kids, r.some(least, more, r.word, depth-1)...) }
	commands := func(least, more int) { kids = append(kids, r.some(least, more, r.command, depth-1)...) }
	switch kind {
	case api.Nop:
	case api.Call:
		words(1, 3)
	case api.Set, api.Eval:
		words(1, 0)
	case api.Seq, api.Pipe:
		commands(2, 2)
	case api.If:
		commands(3, 0)
	case api.And, api.Or, api.While:
		commands(2, 0)
	case api.Not, api.Fun:
		commands(1, 0)
	case api.For, api.Local, api.Redir, api.Here:
		words(1, 0)
		commands(1, 0)
	case api.Case:
		words(1, 0)
		for range r.IntN(3) {
			words(1, 0)
			commands(1, 0)
		}
	case api.Frame:
		words(0, 2)
		commands(1, 0)
	}
	return core.New(kind, n, s, kids...)
}

// programs are so many that may be, of all kinds.
func programs(t *testing.T, n int) [][]api.Node {
	r := random{rand.New(rand.NewPCG(6, 1))}
	var all [][]api.Node
	for len(all) < n {
		l := r.command(r.IntN(5))
		if err := core.Check(l); err != nil {
			t.Fatal("the test's own program may not be:", l, err)
		}
		all = append(all, l)
	}
	return all
}

// wantAt fails unless nothing is answered beside an error around that place.
func wantAt(t *testing.T, s string, pos int, want error) {
	t.Helper()
	l, err := Parse(s)
	var at *api.At
	if len(l) != 0 || !errors.As(err, &at) || at.Pos != pos || at.Err != want {
		t.Errorf("Parse(%.80q) = %v, %v, not %v at %d", s, l, err, want, pos)
	}
}

// wantBare fails unless nothing is answered beside this error itself.
func wantBare(t *testing.T, s string, want error) {
	t.Helper()
	if l, err := Parse(s); len(l) != 0 || err != want {
		t.Errorf("Parse(%.80q) = %v, %v, not %v", s, l, err, want)
	}
}

// wantProgram fails unless the program is answered.
func wantProgram(t *testing.T, s string, want []api.Node) {
	t.Helper()
	if l, err := Parse(s); err != nil || !slices.Equal(l, want) {
		t.Errorf("Parse(%.80q) = %v, %v, not %v", s, l, err, want)
	}
}

// The words of the chapter: Kind, Quote.

func TestKindNamesEach(t *testing.T) {
	for i, name := range strings.Fields(names) {
		if got := Kind(kinds()[i]); got != name {
			t.Errorf("Kind(%d) = %q, not %q", kinds()[i], got, name)
		}
	}
	for _, kind := range []int{math.MinInt, -37, -1, 0, 13, 14, 16, 19, 38, 39, 50, 1 << 32, 1<<32 + 1, math.MaxInt} {
		if got := Kind(kind); got != "?" {
			t.Errorf("Kind(%d) = %q", kind, got)
		}
	}
}

func TestQuoteEachByte(t *testing.T) {
	all := ""
	for c := range 256 {
		s := string([]byte{byte(c)})
		all += s
		if got := Quote(s); got != quoteModel(s) {
			t.Errorf("Quote(%q) = %s", s, got)
		}
	}
	if got := Quote(all); got != quoteModel(all) {
		t.Error(got)
	}
	for s, want := range map[string]string{"": `""`, "a\"\n": `"a\22\0a"`, "\x1f ~\x7f": `"\1f ~\7f"`, `\`: `"\5c"`, "é": `"\c3\a9"`, "\x80\xff": `"\80\ff"`} {
		if got := Quote(s); got != want {
			t.Errorf("Quote(%q) = %s", s, got)
		}
	}
}

func TestQuoteOfALongString(t *testing.T) {
	if got := Quote(strings.Repeat("\x00", 1<<20)); got != `"`+strings.Repeat(`\00`, 1<<20)+`"` {
		t.Error("a long string is quoted otherwise")
	}
}

// P6.1

func TestPrintExamples(t *testing.T) {
	lit, cat := core.Lit, core.New(api.Cat, 0, "")
	for want, l := range map[string][]api.Node{
		`(call (lit "echo") (var "x"))`: core.New(api.Call, 0, "", lit("echo"), core.New(api.Var, 0, "x")),
		`(nop)`:                         nop(),
		`(cat)`:                         cat,
		`(lit "")`:                      lit(""),
		`(lit 1 "a\5c*")`:               core.New(api.Lit, 1, `a\*`),
		`(var "*")`:                     core.New(api.Var, 0, "*"),
		`(pick 99 (lit "a"))`:           core.New(api.Pick, 99, "", lit("a")),
		`(redir 3 (cat) (nop))`:         core.New(api.Redir, 3, "", cat, nop()),
		`(for "i" (cat) (nop))`:         core.New(api.For, 0, "i", cat, nop()),
		`(fun "f" (local "v" (cat (cat)) (nop)))`: core.New(api.Fun, 0, "f", core.New(api.Local, 0, "v", core.New(api.Cat, 0, "", cat), nop())),
		`(seq (not (nop)) (set "x" (sub (nop))))`: core.Seq(not(nop()), core.New(api.Set, 0, "x", core.New(api.Sub, 0, "", nop()))),
		`(frame (nop))`:                  core.New(api.Frame, 0, "", nop()),
		`(case (cat) (lit 1 "*") (nop))`: core.New(api.Case, 0, "", cat, core.New(api.Lit, 1, "*"), nop()),
	} {
		if got := Print(l); got != want {
			t.Errorf("%s, not %s", got, want)
		}
	}
}

func TestPrintOfProgramsAndWords(t *testing.T) {
	r := random{rand.New(rand.NewPCG(6, 2))}
	for _, l := range programs(t, 3000) {
		if got := Print(hiding(l)); got != printModel(l) {
			t.Fatalf("Print(%v) = %s", l, got)
		}
		word := r.word(r.IntN(5))
		if got := Print(hiding(word)); got != printModel(word) {
			t.Fatalf("Print(%v) = %s", word, got)
		}
	}
}

// with is l with one node changed.
func with(l []api.Node, i int, change func(*api.Node)) []api.Node {
	l = slices.Clone(l)
	change(&l[i])
	return l
}

func TestPrintOfWhatMayNotBe(t *testing.T) {
	call := core.New(api.Call, 0, "", core.Lit("echo"), core.New(api.Var, 0, "x"))
	join := core.New(api.Join, 0, "", core.Lit("a"), core.Lit("b"))
	lists := [][]api.Node{
		nil, {}, {{}}, call[:2], call[:1], core.New(api.Call, 0, ""), core.Seq(nop(), core.Lit("a")),
		append(nop(), nop()...), append(core.Lit("a"), core.Lit("b")...), append(nop(), core.Lit("a")...),
		core.New(api.Cat, 0, "", nop()), core.New(api.Lit, 2, "a"), core.New(api.Lit, 1, `\`), core.New(api.Var, 0, "1"),
		core.New(api.Set, 0, "", core.Lit("a")), core.New(api.Pick, 0, "", core.Lit("a")), core.New(api.Pick, 100, "", core.Lit("a")),
		core.New(0, 0, ""), core.New(13, 0, ""), core.New(38, 0, ""), core.New(-1, 0, ""), core.New(api.Nop, 0, "s"),
		core.New(api.Nop, -1, ""), core.New(api.Redir, -2, "", core.Lit("a"), nop()), core.Lit(strings.Repeat("a", api.MaxString+1)),
	}
	for _, l := range [][]api.Node{call, join} {
		for i := range l {
			lists = append(lists,
				with(l, i, func(n *api.Node) { n.K++ }), with(l, i, func(n *api.Node) { n.K-- }),
				with(l, i, func(n *api.Node) { n.Size++ }), with(l, i, func(n *api.Node) { n.Size-- }),
				with(l, i, func(n *api.Node) { n.K = math.MaxInt }), with(l, i, func(n *api.Node) { n.K = math.MinInt }),
				with(l, i, func(n *api.Node) { n.Size = math.MaxInt }), with(l, i, func(n *api.Node) { n.Size = math.MinInt }),
				with(l, i, func(n *api.Node) { n.Kind = math.MaxInt }), with(l, i, func(n *api.Node) { n.N = math.MinInt }))
		}
	}
	for _, l := range lists {
		if got := Print(hiding(l)); got != "" {
			t.Errorf("Print(%v) = %s", l, got)
		}
	}
}

func TestPrintAtTheLimits(t *testing.T) {
	cats := func(n int) []api.Node {
		return core.New(api.Cat, 0, "", slices.Repeat([][]api.Node{core.New(api.Cat, 0, "")}, n)...)
	}
	for i, x := range []struct {
		l    []api.Node
		want bool
	}{
		{nested(api.Not, api.MaxNest-1, nop()), true},
		{nested(api.Not, api.MaxNest, nop()), false},
		{nested(api.Flat, api.MaxNest-2, core.Lit("a")), true},
		{nested(api.Flat, api.MaxNest-1, core.Lit("a")), false},
		{wide(api.MaxNodes - 1), true},
		{wide(api.MaxNodes), false},
		{wide(1 << 20), false},
		{cats(api.MaxNodes - 2), true},
		{cats(api.MaxNodes - 1), false},
		{cats(1 << 20), false},
	} {
		want := ""
		if x.want {
			want = printModel(x.l)
		}
		if Print(x.l) != want {
			t.Error(i, x.want)
		}
	}
}

func TestPrintLeavesItsList(t *testing.T) {
	for _, l := range append(programs(t, 50), core.New(api.Call, 0, ""), core.Lit("a")) {
		behind := append(slices.Clone(l), core.Lit("behind")...)
		was := slices.Clone(behind)
		Print(behind[:len(l)])
		if !slices.Equal(behind, was) {
			t.Error("Print writes into its list", l)
		}
	}
}

// P6.2

// symbols are what is left of a text to come: a byte, one of a range of bytes,
// or the name of a part.
type symbols struct {
	low, high byte
	part      string
	behind    *symbols
}

func then(behind *symbols, parts ...any) *symbols {
	for _, part := range slices.Backward(parts) {
		switch x := part.(type) {
		case byte:
			behind = &symbols{x, x, "", behind}
		case [2]byte:
			behind = &symbols{x[0], x[1], "", behind}
		case string:
			behind = &symbols{0, 0, x, behind}
		}
	}
	return behind
}

func bytesOf(s string) []any {
	var all []any
	for _, c := range []byte(s) {
		all = append(all, c)
	}
	return all
}

// known are the choices that were worked out.
var known = map[string][][]any{}

// choices is what a part of the chapter's form may be.
func choices(part string) [][]any {
	if known[part] == nil {
		known[part] = choicesOf(part)
	}
	return known[part]
}

func choicesOf(part string) [][]any {
	digits := strings.TrimPrefix(part, "digits")
	switch {
	case part == "tree":
		var all [][]any
		for _, kind := range kinds() {
			one := append(bytesOf("("+nameOf(kind)), "number")
			if hasS(kind) {
				one = append(one, "string")
			}
			all = append(all, append(one, "kids", byte(')')))
		}
		return all
	case part == "kids":
		return [][]any{{}, {byte(' '), "tree", "kids"}}
	case part == "number":
		return [][]any{{}, {byte(' '), [2]byte{'1', '9'}, "digits8"}}
	case part == "digits0":
		return [][]any{{}}
	case part == "string":
		return [][]any{{byte(' '), byte('"'), "bytes"}}
	case part == "bytes":
		all := [][]any{{byte('"')}}
		for _, plain := range [][2]byte{{' ', '!'}, {'#', '['}, {']', '~'}} {
			all = append(all, []any{plain, "bytes"})
		}
		for _, one := range []string{`\22`, `\5c`, `\7f`} {
			all = append(all, append(bytesOf(one), "bytes"))
		}
		for _, high := range [][2]byte{{'0', '1'}, {'8', '9'}, {'a', 'f'}} {
			all = append(all, []any{byte('\\'), high, [2]byte{'0', '9'}, "bytes"}, []any{byte('\\'), high, [2]byte{'a', 'f'}, "bytes"})
		}
		return all
	}
	n, _ := strconv.Atoi(digits)
	return [][]any{{}, {[2]byte{'0', '9'}, "digits" + strconv.Itoa(n-1)}}
}

// open is what s may go on with, once each first part is one of its choices.
func open(s *symbols) []*symbols {
	if s == nil || s.part == "" {
		return []*symbols{s}
	}
	var all []*symbols
	for _, choice := range choices(s.part) {
		all = append(all, open(then(s.behind, choice...))...)
	}
	return all
}

// after is what may come behind c, where these may come now.
func after(now []*symbols, c byte) []*symbols {
	var next []*symbols
	for _, way := range now {
		if way != nil && way.low <= c && c <= way.high {
			next = append(next, open(way.behind)...)
		}
	}
	return next
}

// faultModel is the place of the first byte, from i on, that no text of a tree
// has there, where these may come at i; len(s) and false if it ends too early;
// and true if it is a text.
func faultModel(now []*symbols, s string, i int) (int, bool) {
	for ; i < len(s); i++ {
		now = after(now, s[i])
		if len(now) == 0 {
			return i, false
		}
	}
	return len(s), slices.Contains(now, nil)
}

func anyTree() []*symbols { return open(then(nil, "tree")) }

// wantLikeModel holds Parse against the model, where these may come at i; of a
// text that is one of a tree it says only that it is read.
func wantLikeModel(t *testing.T, now []*symbols, s string, i int) {
	t.Helper()
	pos, is := faultModel(now, s, i)
	switch {
	case !is && pos == len(s):
		wantAt(t, s, pos, api.ErrEnd)
	case !is:
		wantAt(t, s, pos, api.ErrForm)
	default:
		l, err := Parse(s)
		if errors.Is(err, api.ErrForm) || errors.Is(err, api.ErrEnd) || err == nil && printModel(l) != s {
			t.Errorf("Parse(%q) = %v, %v", s, l, err)
		}
	}
}

func TestParseExamples(t *testing.T) {
	wantProgram(t, `(nop)`, nop())
	wantProgram(t, `(call (lit "echo") (var "x"))`, core.New(api.Call, 0, "", core.Lit("echo"), core.New(api.Var, 0, "x")))
	wantAt(t, `(nop,`, 4, api.ErrForm)
	wantAt(t, `(nop`, 4, api.ErrEnd)
}

func TestParseFaults(t *testing.T) {
	for i, x := range []struct {
		s   string
		pos int
	}{
		{"nop", 0}, {" (nop)", 0}, {"\n", 0}, {")", 0}, {"()", 1}, {"( nop)", 1}, {"((nop))", 1}, {"(?)", 1}, {"(NOP)", 1},
		{"(fo)", 3}, {"(nox)", 3}, {"(pip)", 4}, {"(sex)", 3}, {"(s)", 2}, {"(ifx)", 3}, {"(ore)", 3}, {"(1)", 1},
		{"(nop )", 5}, {"(nop  1)", 5}, {"(nop\t1)", 4}, {"(nop\n)", 4}, {"(nop)x", 5}, {"(nop))", 5}, {"(nop)(nop)", 5}, {"(nop)\n", 5},
		{"(nop 0)", 5}, {"(nop 01)", 5}, {"(nop -1)", 5}, {"(nop +1)", 5}, {"(nop 1.)", 6}, {"(nop 1 )", 7}, {"(nop 1 2)", 7},
		{"(nop 1234567890)", 14}, {"(nop 1 \"\")", 7}, {"(nop \"\")", 5}, {"(pick (cat) 1)", 12}, {"(pick(cat))", 5},
		{"(lit)", 4}, {"(lit )", 5}, {"(lit a)", 5}, {"(lit (nop))", 5}, {"(lit 0 \"\")", 5}, {"(lit 1)", 6}, {"(lit 1 2 \"\")", 7},
		{"(lit 1\"\")", 6}, {"(lit \"\" 1)", 8}, {"(lit \"\" \"\")", 8}, {"(lit \"\"(nop))", 7}, {"(lit \"a\"b\")", 8}, {"(lit 'a')", 5},
		{`(lit "\n")`, 7}, {`(lit "\"")`, 7}, {`(lit "\\")`, 7}, {`(lit "\30")`, 7}, {`(lit "\41")`, 7}, {`(lit "\6a")`, 7}, {`(lit "\21")`, 8},
		{`(lit "\5b")`, 8}, {`(lit "\5d")`, 8}, {`(lit "\7e")`, 8}, {`(lit "\0A")`, 8}, {`(lit "\A0")`, 7}, {`(lit "\x0")`, 7}, {`(lit "\0")`, 8},
		{"(lit \"\x1f\")", 6}, {"(lit \"\x7f\")", 6}, {"(lit \"\x80\")", 6}, {"(lit \"\xc3\xa9\")", 6}, {"(lit \"\x00\")", 6},
	} {
		wantAt(t, x.s, x.pos, api.ErrForm)
		if pos, is := faultModel(anyTree(), x.s, 0); pos != x.pos || is {
			t.Error("the model itself:", i, x.s, pos)
		}
	}
}

func TestParseOfWhatEndsTooEarly(t *testing.T) {
	for _, l := range programs(t, 300) {
		s := Print(l)
		for i := range len(s) {
			wantAt(t, s[:i], i, api.ErrEnd)
		}
	}
	for _, s := range []string{"", `(lit "\`, `(lit "\0`, `(lit "\2`, `(lit 1`, `(lit 123456789`, `(nop 1 `, `(l`, `(lit "" `} {
		wantAt(t, s, len(s), api.ErrEnd)
	}
}

// shortTexts have of everything some.
func shortTexts() []string {
	return []string{
		`(nop)`, `(call (lit "a b") (lit 1 "\22\0a*"))`, `(seq (nop) (if (nop) (nop) (nop)) (or (nop) (nop)))`,
		`(for "i" (cat (var "*") (pick 12 (cat))) (fun "f" (nop)))`, `(lit 123456789 "x" (nop 987654321) (set 5 "\ff"))`,
		`(redir 2 (split (sub (pipe (nop) (nop)))) (here (cat) (while (nop) (nop))))`,
	}
}

func TestParseOfTextsWithOneByteOtherwise(t *testing.T) {
	for _, s := range shortTexts() {
		now := anyTree()
		for i := range len(s) {
			wantLikeModel(t, now, s[:i]+s[i+1:], i)
			for c := range 256 {
				wantLikeModel(t, now, s[:i]+string([]byte{byte(c)})+s[i+1:], i)
				wantLikeModel(t, now, s[:i]+string([]byte{byte(c)})+s[i:], i)
			}
			now = after(now, s[i])
		}
		for c := range 256 {
			wantLikeModel(t, now, s+string([]byte{byte(c)}), len(s))
		}
	}
}

func TestParseOfShortTexts(t *testing.T) {
	for _, beginning := range []string{"", "(nop", "(lit", `(lit 1`, `(set "x"`, `(lit "`, `(lit "\`} {
		texts := []string{""}
		for range 4 {
			var longer []string
			for _, s := range texts {
				for _, c := range []string{"(", ")", " ", `"`, `\`, "0", "2", "nop", "lit"} {
					longer = append(longer, s+c)
					wantLikeModel(t, anyTree(), beginning+s+c, 0)
				}
			}
			texts = longer
		}
	}
}

func TestParseOfMixedPieces(t *testing.T) {
	r := rand.New(rand.NewPCG(6, 3))
	pieces := append(strings.Fields(names), "(", "(", ")", " ", " (", `"`, `\`, `\0a`, ` "x"`, " 7", "0", "1234567890", "(nop)", " (cat)")
	for range 20000 {
		s := "("
		for range 1 + r.IntN(8) {
			s += pieces[r.IntN(len(pieces))]
		}
		wantLikeModel(t, anyTree(), s, 0)
	}
}

// anyTrees are small trees of all kinds, most of which may not be.
func anyTrees() [][]api.Node {
	leaves := [][]api.Node{nop(), core.Lit("a"), core.New(api.Lit, 1, `\`), core.New(api.Var, 0, ""), core.New(api.Call, 0, "")}
	var all [][]api.Node
	for _, kind := range kinds() {
		for _, n := range []int{0, 1, 2, 9, 10, 99, 100, 123456789, 999999999} {
			for _, s := range []string{"", "x", "*", "\x00\"\\", strings.Repeat("y", api.MaxName+1)} {
				if !hasS(kind) {
					s = ""
				}
				all = append(all, core.New(kind, n, s))
				for _, a := range leaves {
					all = append(all, core.New(kind, n, s, a), core.Seq(nop(), core.New(kind, n, s, a)))
					for _, b := range leaves {
						all = append(all, core.New(kind, n, s, a, b), core.New(kind, n, s, a, b, a))
					}
				}
			}
		}
	}
	return all
}

func TestParseOfTreesThatMayNotBe(t *testing.T) {
	for _, l := range anyTrees() {
		s := printModel(l)
		err := core.Check(l)
		var at *api.At
		switch {
		case err == nil:
			wantProgram(t, s, l)
		case errors.As(err, &at):
			wantAt(t, s, at.Pos, at.Err)
		default:
			t.Fatal(err)
		}
	}
}

func TestParseTellsTheFormAheadOfTheProgram(t *testing.T) {
	wantAt(t, `(nop 1)`, 0, api.ErrNode)
	wantAt(t, `(nop 1) `, 7, api.ErrForm)
	wantAt(t, `(nop 1 (lit "a")`, 16, api.ErrEnd)
	wantAt(t, `(seq (lit "a") (nop)`, 20, api.ErrEnd)
	wantAt(t, `(seq (nop) (lit "a"))`, 2, api.ErrNode)
	wantAt(t, `(lit "a")`, 0, api.ErrNode)
	wantAt(t, strings.Repeat("(not ", 40)+"(nop)"+strings.Repeat(")", 41), 245, api.ErrForm)
}

func TestParseOfDeepTexts(t *testing.T) {
	const most = 4 * api.MaxNest
	closed := func(n int) string { return strings.Repeat("(not ", n-1) + "(nop)" + strings.Repeat(")", n-1) }
	wantProgram(t, closed(api.MaxNest), nested(api.Not, api.MaxNest-1, nop()))
	for _, n := range []int{api.MaxNest + 1, 2 * api.MaxNest, most - 1, most} {
		wantAt(t, closed(n), api.MaxNest, api.ErrNest)
	}
	for _, n := range []int{most + 1, most + 2, 2 * most, 20000} {
		wantAt(t, closed(n), 5*most, api.ErrForm)
	}
	wantAt(t, strings.Repeat("(not ", most)+"(", 5*most, api.ErrForm)
	wantAt(t, strings.Repeat("(not ", most)+"x", 5*most, api.ErrForm)
	wantAt(t, strings.Repeat("(not ", most), 5*most, api.ErrEnd)
	wantAt(t, strings.Repeat("(not ", most)+"7", 5*most+1, api.ErrEnd)
	wantAt(t, strings.Repeat("(not ", most)+"7 (", 5*most+2, api.ErrForm)
	wantAt(t, strings.Repeat("(not ", most-1)+"(nop) (nop (nop", 5*most+6, api.ErrForm)
}

func TestParseCountsNestingAlone(t *testing.T) {
	brackets := strings.Repeat("(", 8*api.MaxNest)
	wantProgram(t, `(call (lit "`+brackets+`"))`, core.New(api.Call, 0, "", core.Lit(brackets)))
	wantProgram(t, Print(wide(8*api.MaxNest)), wide(8*api.MaxNest))
}

func TestParseOfManyNodes(t *testing.T) {
	wantProgram(t, printModel(wide(api.MaxNodes-1)), wide(api.MaxNodes-1))
	for _, n := range []int{api.MaxNodes, api.MaxNodes + 1, api.MaxNodes + 2, 20000} {
		wantBare(t, "(seq"+strings.Repeat(" (nop)", n)+")", api.ErrMany)
	}
	pairs := strings.Repeat(" (not (nop))", api.MaxNodes)
	wantBare(t, "(seq"+pairs+")", api.ErrMany)
	wantBare(t, "(lit \"\""+pairs+" (nop 1))", api.ErrMany)
	wantAt(t, "(seq"+pairs, 4+len(pairs), api.ErrEnd)
	wantAt(t, "(seq"+pairs+"(", 4+len(pairs), api.ErrForm)
}

func TestParseOfLongTexts(t *testing.T) {
	const most = 16 * api.MaxSource
	wantAt(t, strings.Repeat("(", most), 1, api.ErrForm)
	wantBare(t, strings.Repeat("(", most+1), api.ErrLong)
	wantAt(t, `(lit "`+strings.Repeat("a", most-6), most, api.ErrEnd)
	wantBare(t, `(lit "`+strings.Repeat("a", most-5), api.ErrLong)
	wantAt(t, `(set "`+strings.Repeat("a", most-14)+`" (cat))`, 0, api.ErrNode)
	wantBare(t, `(set "`+strings.Repeat("a", most-13)+`" (cat))`, api.ErrLong)
	wantBare(t, "(nop)"+strings.Repeat(" ", most), api.ErrLong)
	wantBare(t, "(seq"+strings.Repeat(" (nop)", 1<<20)+")", api.ErrLong)
}

func TestParseOfLongPrograms(t *testing.T) {
	lit := core.Lit(strings.Repeat("\xff", api.MaxString))
	for _, n := range []int{1, 21, 22, 100, api.MaxNodes - 1} {
		l := core.New(api.Call, 0, "", slices.Repeat([][]api.Node{lit}, n)...)
		s := Print(l)
		wantProgram(t, s, l)
		if len(s) > 16*api.MaxSource {
			wantBare(t, s+")", api.ErrLong)
			wantBare(t, s[1:], api.ErrLong)
		}
	}
}

func TestParseAnswersNewMemory(t *testing.T) {
	for _, l := range programs(t, 50) {
		s := Print(l)
		first, _ := Parse(s)
		second, _ := Parse(s)
		spoil(first)
		if !slices.Equal(second, l) {
			t.Fatal("two answers share memory")
		}
		_ = append(second, core.Lit("more")...)
		wantProgram(t, s, l)
	}
}

// P6.3

func TestUnquote(t *testing.T) {
	r := random{rand.New(rand.NewPCG(6, 4))}
	for range 3000 {
		s := r.str()
		for _, rest := range []string{"", `"`, `"x"`, "rest", `\`, "\n", "\xff"} {
			got, n, is := Unquote(quoteModel(s) + rest)
			if got != s || n != len(quoteModel(s)) || !is {
				t.Fatalf("Unquote(%q) = %q, %d, %v", quoteModel(s)+rest, got, n, is)
			}
		}
	}
}

func TestUnquoteOfWhatIsNotQuoted(t *testing.T) {
	for _, s := range []string{
		"", "a", `"`, `"a`, `a"`, ` ""`, `'a'`, `"\"`, `"\"a`, `"\\"`, `"\n"`, `"\0"`, `"\0`, `"\0a`, `"\61"`, `"\23"`, `"\0A"`, `"\FF"`,
		`"\20"`, `"\7e"`, `"\g0"`, `"\0g"`, "\"\n\"", "\"\x00\"", "\"\x7f\"", "\"\x80\"", "\"a\xffb\"", `\22`, "\x00",
	} {
		if got, n, is := Unquote(s); got != "" || n != 0 || is {
			t.Errorf("Unquote(%q) = %q, %d, %v", s, got, n, is)
		}
	}
}

func TestUnquoteOfEachEscape(t *testing.T) {
	const digits = "0123456789abcdefABCDEF"
	for _, high := range digits {
		for _, low := range digits {
			s := `"\` + string(high) + string(low) + `"`
			c, _ := strconv.ParseUint(s[2:4], 16, 8)
			want := string([]byte{byte(c)})
			got, n, is := Unquote(s)
			if quoteModel(want) == s {
				if got != want || n != 5 || !is {
					t.Errorf("Unquote(%s) = %q, %d, %v", s, got, n, is)
				}
			} else if got != "" || n != 0 || is {
				t.Errorf("Unquote(%s) = %q, %d, %v", s, got, n, is)
			}
		}
	}
}

func TestUnquoteOfALongString(t *testing.T) {
	s := strings.Repeat("a\x00", 1<<20)
	if got, n, is := Unquote(Quote(s) + "rest"); got != s || n != 4<<20+2 || !is {
		t.Error(n, is)
	}
	if got, n, is := Unquote(Quote(s)[:4<<20+1]); got != "" || n != 0 || is {
		t.Error(n, is)
	}
}

// P6.4

func TestParseOfPrintIsTheProgram(t *testing.T) {
	for _, l := range programs(t, 5000) {
		wantProgram(t, Print(l), l)
	}
}

func TestWhatParseTakesIsPrintOfIt(t *testing.T) {
	taken := 0
	for _, l := range anyTrees() {
		s := printModel(l)
		if got, err := Parse(s); err == nil {
			taken++
			if Print(got) != s {
				t.Errorf("Print of Parse(%s) = %s", s, Print(got))
			}
		}
	}
	if taken == 0 {
		t.Error("no text was taken")
	}
}
