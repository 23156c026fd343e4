package consts

import (
	"math/rand/v2"
	"slices"
	"strings"
	"testing"

	"patois/api"
	"patois/core"
	"patois/pattern"
	"patois/run"
	"patois/spell"
)

// tree is a node with its children, as the model has it.
type tree struct {
	kind, n int
	s       string
	kids    []*tree
}

func treeOf(l []api.Node) *tree {
	x := &tree{kind: l[0].Kind, n: l[0].N, s: l[0].S}
	for _, kid := range core.Kids(l) {
		x.kids = append(x.kids, treeOf(kid))
	}
	return x
}

func (x *tree) nodes() []api.Node {
	var kids [][]api.Node
	for _, kid := range x.kids {
		kids = append(kids, kid.nodes())
	}
	return core.New(x.kind, x.n, x.s, kids...)
}

func (x *tree) has(kind int) bool {
	return x.kind == kind || slices.ContainsFunc(x.kids, func(kid *tree) bool { return kid.has(kind) })
}

func (x *tree) is(kinds ...int) bool { return slices.Contains(kinds, x.kind) }

// opens puts the i-th child's children in its place.
func (x *tree) opens(i int) { x.kids = slices.Replace(x.kids, i, i+1, x.kids[i].kids...) }

// again does steps, one after the other, until none of them changes anything.
func again(steps ...func() bool) {
	for changed := true; changed; {
		changed = false
		for _, step := range steps {
			changed = step() || changed
		}
	}
}

// model does what the chapter says of one node after the other, a step at a time,
// changing the tree.
func (x *tree) model() *tree {
	for i := range x.kids {
		x.kids[i] = x.kids[i].model()
	}
	switch x.kind {
	case api.Join:
		return x.modelJoin()
	case api.Cat:
		again(x.opensCat)
		if len(x.kids) == 1 {
			return x.kids[0]
		}
	case api.Flat, api.Count, api.Pick:
		return x.modelOne()
	case api.Esc, api.Plain, api.Glob, api.Split:
		if x.kids[0].is(api.Lit) {
			return x.modelLit(x.kids[0].s)
		}
	}
	return x
}

func (x *tree) opensCat() bool {
	for i, kid := range x.kids {
		if kid.is(api.Cat) && (i == 0 || !kid.has(api.Sub)) {
			x.opens(i)
			return true
		}
	}
	return false
}

func (x *tree) modelJoin() *tree {
	again(func() bool {
		first := x.kids[0].is(api.Join)
		if first {
			x.opens(0)
		}
		return first
	}, x.leavesOut)
	for i := 1; i < len(x.kids); {
		a, b := x.kids[i-1], x.kids[i]
		if a.is(api.Lit) && b.is(api.Lit) && a.n == b.n && len(a.s+b.s) <= api.MaxString {
			x.kids = slices.Replace(x.kids, i-1, i+1, &tree{kind: api.Lit, n: a.n, s: a.s + b.s})
		} else {
			i++
		}
	}
	if len(x.kids) == 1 && x.kids[0].is(api.Lit, api.Flat, api.Count, api.Sub) {
		return x.kids[0]
	}
	return x
}

// leavesOut leaves out all that may be, always the first there is.
func (x *tree) leavesOut() bool {
	was := len(x.kids)
	for len(x.kids) > 2 {
		i := slices.IndexFunc(x.kids, func(kid *tree) bool { return kid.is(api.Lit) && kid.s == "" })
		if i < 0 {
			break
		}
		x.kids = slices.Delete(x.kids, i, i+1)
	}
	return len(x.kids) < was
}

func (x *tree) modelOne() *tree {
	kid := x.kids[0]
	known := kid.is(api.Lit)
	single := known || kid.is(api.Flat, api.Count, api.Sub)
	if x.is(api.Flat) && single || x.is(api.Pick) && x.n == 1 && single {
		return kid
	}
	if x.is(api.Count) && known {
		return &tree{kind: api.Lit, s: "1"}
	}
	if x.is(api.Pick) && known {
		return &tree{kind: api.Cat}
	}
	return x
}

func (x *tree) modelLit(s string) *tree {
	parts := pattern.Split(s)
	switch {
	case x.is(api.Esc) && len(pattern.Escape(s)) <= api.MaxString:
		return &tree{kind: api.Lit, n: 1, s: pattern.Escape(s)}
	case x.is(api.Plain), x.is(api.Glob) && !pattern.Live(s):
		return &tree{kind: api.Lit, s: pattern.Plain(s)}
	case x.is(api.Split) && len(parts) == 0:
		return &tree{kind: api.Cat}
	case x.is(api.Split) && len(parts) == 1 && pattern.Closed(parts[0]):
		return &tree{kind: api.Lit, n: 1, s: parts[0]}
	}
	return x
}

// follows asks all that can be told of a program that may be without running it:
// it is what the model makes, and what the chapter says follows.
func follows(t *testing.T, l []api.Node) []api.Node {
	t.Helper()
	was := slices.Clone(l)
	got := Pass(l)
	if want := treeOf(l).model().nodes(); !core.Same(got, want) {
		t.Fatalf("Pass(%s): %s, not %s", spell.Print(l), spell.Print(got), spell.Print(want))
	}
	if !core.Same(l, was) {
		t.Fatalf("Pass(%s) has changed it", spell.Print(was))
	}
	if err := core.Check(got); err != nil || len(got) > len(l) {
		t.Fatalf("Pass(%s): %d nodes of %d, %v", spell.Print(l), len(got), len(l), err)
	}
	if next := Pass(got); !core.Same(next, got) {
		t.Fatalf("Pass of Pass(%s): %s, not %s", spell.Print(l), spell.Print(next), spell.Print(got))
	}
	if parts := apart(got); parts != "" {
		t.Fatalf("Pass(%s): %q would fit one string", spell.Print(l), parts)
	}
	return got
}

// apart is what two neighbouring Lits of one N say in a Join, that one could hold;
// none if there are no such.
func apart(l []api.Node) string {
	for i, n := range l {
		if n.Kind != api.Join {
			continue
		}
		kids := core.Kids(l[i : i+n.Size])
		for j := 1; j < len(kids); j++ {
			a, b := kids[j-1][0], kids[j][0]
			if a.Kind == api.Lit && b.Kind == api.Lit && a.N == b.N && len(a.S+b.S) <= api.MaxString {
				return a.S + "|" + b.S
			}
		}
	}
	return ""
}

// settings are worlds and beginnings in which a program is run: words are lists of
// no items, of one, of more, of as many as there may be, and too long to be joined.
func settings() []run.Options {
	full := func(s string) []string { return slices.Repeat([]string{s}, api.MaxList) }
	var all []run.Options
	for _, v := range [][]string{nil, {""}, {"a"}, {`b *\`, "", `[f] \*`}, full("c"), {strings.Repeat("d", api.MaxString)}} {
		for _, w := range [][]string{nil, {"x", " y"}, full("z")} {
			o := run.Defaults()
			o.Vars = []api.Value{{Name: "v", L: v}, {Name: "w", L: w}}
			o.Args = []string{"1", "*"}
			o.In = "one\ntwo three\n"
			o.Parse = spell.Parse
			all = append(all, o)
		}
	}
	short := all[len(all)/2]
	for _, steps := range []int{0, 1, 2, 5} {
		short.Steps = steps
		all = append(all, short)
	}
	flat := all[len(all)/2]
	flat.Depth = 0
	return append(all, flat)
}

func files() api.World {
	return api.World{
		Files: []api.File{{Name: "f", Data: "in f\n"}, {Name: "*", Data: "star"}, {Name: "a", Data: ""}, {Name: "b c", Data: "c"}},
		Rows:  []api.Row{{Name: "up", Any: true, Reads: true, Copy: true, Out: ":", Status: 3}},
	}
}

// means asks that both programs mean the same in all the settings, and counts how
// their runs end.
func means(t *testing.T, l, got []api.Node, ends map[error]int, all ...run.Options) {
	t.Helper()
	for i, o := range all {
		before, err := run.Run(l, files(), o)
		if err != nil {
			t.Fatal(spell.Print(l), err)
		}
		after, err := run.Run(got, files(), o)
		if err != nil || !run.SameResult(before, after) {
			t.Fatalf("%s, then %s, in %d: %.500v, %v; not %.500v", spell.Print(l), spell.Print(got), i, after, err, before)
		}
		ends[after.Err]++
	}
}

// shorts are short words: those that count as one node, Joins and Cats of such, and
// what stands above one word.
type shorts struct {
	leaves [][]api.Node
	above  func(kid []api.Node) [][]api.Node
}

// each goes through all short words of so many nodes.
func (w shorts) each(size int, yield func([]api.Node)) {
	if size == 1 {
		for _, l := range w.leaves {
			yield(l)
		}
		return
	}
	w.several(size-1, nil, func(kids [][]api.Node) {
		yield(of(api.Join, kids...))
		yield(of(api.Cat, kids...))
	})
	w.each(size-1, func(kid []api.Node) {
		for _, l := range w.above(kid) {
			yield(l)
		}
	})
}

// several goes through all lists of short words that have so many nodes together.
func (w shorts) several(size int, ahead [][]api.Node, yield func([][]api.Node)) {
	if size == 0 {
		yield(ahead)
		return
	}
	for first := 1; first <= size; first++ {
		w.each(first, func(l []api.Node) { w.several(size-first, append(slices.Clip(ahead), l), yield) })
	}
}

// aboveOne is all that may stand above one word.
func aboveOne(kid []api.Node) [][]api.Node {
	all := [][]api.Node{core.New(api.Pick, 1, "", kid), core.New(api.Pick, 2, "", kid), of(api.Sub, of(api.Call, core.Lit("put"), kid))}
	for _, kind := range []int{api.Split, api.Glob, api.Plain, api.Esc, api.Flat, api.Count} {
		all = append(all, of(kind, kid))
	}
	return all
}

// All short words are what the model makes of them, and mean the same.
func TestShortWords(t *testing.T) {
	w := shorts{above: aboveOne, leaves: [][]api.Node{
		core.Lit(""), core.Lit("a"), core.New(api.Lit, 1, ""), core.New(api.Lit, 1, `\*`), core.Lit(" *"), get("v"), get("w"), of(api.Cat),
		of(api.Sub, core.New(api.Set, 0, "v", core.Lit("s t"))),
	}}
	all := settings()
	ends := map[error]int{}
	asked := 0
	for size := 1; size <= 4; size++ {
		w.each(size, func(l []api.Node) {
			asked++
			got := follows(t, let(l))
			if !core.Same(core.Kids(got)[0], Word(l)) {
				t.Fatal(spell.Print(let(l)), spell.Print(got))
			}
			// The longest ones are too many to be run in all of the settings.
			some := all
			if size == 4 {
				some = all[asked%len(all):][:1]
			}
			means(t, let(l), got, ends, some...)
		})
	}
	if asked < 20000 || ends[nil] < 10000 || ends[api.ErrBig] < 500 || ends[api.ErrFuel] < 500 || ends[api.ErrDeep] < 500 {
		t.Error(asked, ends)
	}
}

// Joins and Cats, in which one thing done may leave another to be done, are so a
// little longer.
func TestShortJoinsAndCats(t *testing.T) {
	w := shorts{
		leaves: [][]api.Node{core.Lit(""), core.New(api.Lit, 1, ""), core.Lit("a"), get("v"), of(api.Sub, nop()), of(api.Cat)},
		above:  func([]api.Node) [][]api.Node { return nil },
	}
	asked := 0
	for size := 1; size <= 6; size++ {
		w.each(size, func(l []api.Node) {
			asked++
			follows(t, let(l))
		})
	}
	if asked < 100000 {
		t.Error(asked)
	}
}

// maker makes programs by chance, the same ones each time.
type maker struct{ *rand.Rand }

func (m maker) one(of ...string) string { return of[m.IntN(len(of))] }

func (m maker) name() string { return m.one("v", "w", "u") }

func (m maker) leaf() []api.Node {
	switch m.IntN(10) {
	case 0, 1:
		return get(m.one("v", "w", "u", "*"))
	case 2, 3:
		return core.New(api.Lit, 1, m.one("", "", "*", "?", `\*`, "f", " a", `b\ c `))
	case 4:
		return core.New(api.Lit, m.IntN(2), strings.Repeat(m.one("a", "*", " "), m.IntN(api.MaxString+1)))
	case 5:
		return of(api.Cat)
	}
	return core.Lit(m.one("", "", "", "a", "b c", "f", `\`, `x\`, "*", " "))
}

func (m maker) words(depth, least int) [][]api.Node {
	var all [][]api.Node
	for range least + m.IntN(4) {
		all = append(all, m.word(depth))
	}
	return all
}

func (m maker) word(depth int) []api.Node {
	if depth <= 0 {
		return m.leaf()
	}
	switch kind := m.IntN(18); kind {
	case api.Cat, api.Join:
		return of(kind, m.words(depth-1, 1)...)
	case 14, 15:
		return of(api.Join, m.words(depth-1, 2)...)
	case 16, 17:
		return of(api.Cat, m.words(depth-1, 1)...)
	case api.Split, api.Glob, api.Plain, api.Esc, api.Flat, api.Count:
		return of(kind, m.word(depth-1))
	case api.Pick:
		return core.New(kind, 1+m.IntN(2), "", m.word(depth-1))
	case api.Sub:
		return of(kind, m.command(depth-1))
	}
	return m.leaf()
}

func (m maker) call(depth int) []api.Node {
	words := m.words(depth-1, 0)
	name := m.one("echo", "put", "put", "cat", "true", "false", "eq", "up", "fun", "read", "no")
	if name == "read" {
		words = [][]api.Node{core.Lit(m.name())}
	}
	return of(api.Call, append([][]api.Node{core.Lit(name)}, words...)...)
}

func (m maker) commands(depth, n int) [][]api.Node {
	var all [][]api.Node
	for range n {
		all = append(all, m.command(depth))
	}
	return all
}

func (m maker) command(depth int) []api.Node {
	if depth <= 0 {
		return m.call(0)
	}
	d := depth - 1
	switch kind := api.Nop + m.IntN(22); kind {
	case api.Nop:
		return nop()
	case api.Set:
		return core.New(kind, 0, m.name(), m.word(d))
	case api.Seq, api.Pipe:
		return of(kind, m.commands(d, 2+m.IntN(2))...)
	case api.If:
		return of(kind, m.commands(d, 3)...)
	case api.And, api.Or:
		return of(kind, m.commands(d, 2)...)
	case api.Not:
		return of(kind, m.command(d))
	case api.While:
		return of(kind, of(api.Call, core.Lit("read"), core.Lit("u")), m.command(d))
	case api.For, api.Local:
		return core.New(kind, 0, m.name(), m.word(d), m.command(d))
	case api.Case:
		return of(kind, m.word(d), m.word(d), m.command(d), core.New(api.Lit, 1, "*"), m.command(d))
	case api.Fun:
		return of(api.Seq, core.New(kind, 0, "fun", m.command(d)), of(api.Call, append([][]api.Node{core.Lit("fun")}, m.words(d, 0)...)...))
	case api.Redir:
		return core.New(kind, 1+m.IntN(3), "", m.word(d), m.command(d))
	case api.Here:
		return of(kind, m.word(d), m.command(d))
	case api.Eval:
		return of(kind, of(api.Join, core.Lit(`(call (lit "put") `), m.word(min(d, 1)), core.Lit(")")))
	case api.Frame:
		return of(kind, append(m.words(d, 0), m.command(d))...)
	}
	return m.call(depth)
}

// Programs made by chance are what the model makes of them, and mean the same.
func TestMadePrograms(t *testing.T) {
	all := settings()
	ends, kinds, changed := map[error]int{}, map[int]int{}, 0
	for seed := range 3000 {
		m := maker{rand.New(rand.NewPCG(uint64(seed), 17))}
		l := core.Seq(m.commands(6, 1+m.IntN(3))...)
		if core.Check(l) != nil {
			if got := Pass(l); !core.Same(got, l) {
				t.Fatal("what may not be is not copied:", seed)
			}
			continue
		}
		got := follows(t, l)
		if !core.Same(got, l) {
			changed++
		}
		for _, n := range l {
			kinds[n.Kind]++
		}
		means(t, l, got, ends, all[seed%len(all)], all[(seed+7)%len(all)])
	}
	// Or else what was asked was asked of too little.
	for kind := range api.Frame + 1 {
		if (core.Word(kind) || core.Command(kind)) && kinds[kind] < 100 {
			t.Errorf("only %d of kind %s", kinds[kind], spell.Kind(kind))
		}
	}
	if changed < 1000 || ends[nil] < 1000 || ends[api.ErrBig] < 100 || ends[api.ErrFuel] < 100 || ends[api.ErrDeep] < 20 {
		t.Error(changed, ends)
	}
}

// So are words by themselves, of many words nested in one another.
func TestMadeWords(t *testing.T) {
	all := settings()
	ends := map[error]int{}
	for seed := range 4000 {
		m := maker{rand.New(rand.NewPCG(uint64(seed), 71))}
		l := let(of(api.Cat+seed%2, m.words(2+seed/2%4, 2)...))
		if core.Check(l) != nil {
			continue
		}
		got := follows(t, l)
		if !core.Same(core.Kids(got)[0], Word(core.Kids(l)[0])) {
			t.Fatal(spell.Print(l), spell.Print(got))
		}
		means(t, l, got, ends, all[seed%len(all)], all[(seed+5)%len(all)])
	}
	if ends[nil] < 1000 || ends[api.ErrBig] < 100 {
		t.Error(ends)
	}
}
