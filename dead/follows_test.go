package dead

import (
	"math/rand/v2"
	"slices"
	"strings"
	"testing"

	"patois/api"
	"patois/core"
	"patois/run"
	"patois/spell"
	"patois/world"
)

// tree is a node with its children, as the model has it.
type tree struct {
	kind, n int
	s       string
	kids    []*tree
}

func treeOf(l []api.Node) *tree {
	x := &tree{kind: l[0].Kind, n: l[0].N, s: l[0].S}
	for _, kid := range core.Kids(l) {
		x.kids = append(x.kids, treeOf(kid))
	}
	return x
}

func (x *tree) nodes() []api.Node {
	var kids [][]api.Node
	for _, kid := range x.kids {
		kids = append(kids, kid.nodes())
	}
	return core.New(x.kind, x.n, x.s, kids...)
}

func (x *tree) silent() bool {
	return x.kind != api.Sub && !slices.ContainsFunc(x.kids, func(kid *tree) bool { return !kid.silent() })
}

// like answers whether the tree is of the kind, its first child of the next one,
// and so on.
func (x *tree) like(kinds ...int) bool {
	return x.kind == kinds[0] && (len(kinds) == 1 || x.kids[0].like(kinds[1:]...))
}

// rules are what the chapter says, one by one: each changes the tree, or answers
// false. A Seq's two things are told apart, and done one at a time.
func rules() []func(x *tree) bool {
	return []func(x *tree) bool{
		func(x *tree) bool {
			i := slices.IndexFunc(x.kids, func(kid *tree) bool { return kid.kind == api.Seq })
			if x.kind != api.Seq || i < 0 {
				return false
			}
			x.kids = slices.Concat(x.kids[:i], x.kids[i].kids, x.kids[i+1:])
			return true
		},
		func(x *tree) bool {
			i := slices.IndexFunc(x.kids, func(kid *tree) bool { return kid.kind == api.Nop })
			if x.kind != api.Seq || i < 0 || i == len(x.kids)-1 {
				return false
			}
			x.kids = slices.Concat(x.kids[:i], x.kids[i+1:])
			return true
		},
		func(x *tree) bool { return x.kind == api.Seq && len(x.kids) == 1 && x.turns(x.kids[0]) },
		func(x *tree) bool { return x.like(api.If, api.Nop) && x.turns(x.kids[1]) },
		func(x *tree) bool { return x.like(api.And, api.Nop) && x.turns(x.kids[1]) },
		func(x *tree) bool { return x.like(api.Or, api.Nop) && x.turns(x.kids[0]) },
		func(x *tree) bool { return x.like(api.Not, api.Not, api.Not) && x.turns(x.kids[0].kids[0]) },
		func(x *tree) bool {
			return x.like(api.If, api.Not) && x.turns(&tree{kind: api.If, kids: []*tree{x.kids[0].kids[0], x.kids[2], x.kids[1]}})
		},
		func(x *tree) bool {
			return x.kind == api.Here && x.kids[1].kind == api.Here && x.kids[0].silent() && x.kids[1].kids[0].silent() && x.turns(x.kids[1])
		},
		func(x *tree) bool {
			return (x.kind == api.Here || x.kind == api.Local) && x.kids[0].silent() && x.kids[1].kind == api.Nop && x.turns(x.kids[1])
		},
		func(x *tree) bool {
			return x.kind == api.Case && len(x.kids) == 1 && x.kids[0].silent() && x.turns(&tree{kind: api.Nop})
		},
	}
}

// turns makes one tree the other.
func (x *tree) turns(into *tree) bool {
	*x = *into
	return true
}

// fits does what the first rule that fits says.
func (x *tree) fits() bool {
	return slices.ContainsFunc(rules(), func(rule func(*tree) bool) bool { return rule(x) })
}

// up is the model: from below to above, each node again and again.
func (x *tree) up() *tree {
	for _, kid := range x.kids {
		kid.up()
	}
	for x.fits() {
	}
	return x
}

// down does the other way what it does: always the first node for which there is
// a rule.
func (x *tree) down() *tree {
	for x.once() {
	}
	return x
}

func (x *tree) once() bool { return x.fits() || slices.ContainsFunc(x.kids, (*tree).once) }

// follows asks all that can be told of a program that may be without running it:
// it is what the model makes, in whatever order, and what the chapter says follows.
func follows(t *testing.T, l []api.Node) []api.Node {
	t.Helper()
	was := slices.Clone(l)
	got := Pass(l)
	for _, want := range []*tree{treeOf(l).up(), treeOf(l).down()} {
		if !core.Same(got, want.nodes()) {
			t.Fatalf("Pass(%s): %s, not %s", spell.Print(l), spell.Print(got), spell.Print(want.nodes()))
		}
	}
	if !core.Same(l, was) {
		t.Fatalf("Pass(%s) has changed it", spell.Print(was))
	}
	if err := core.Check(got); err != nil || len(got) > len(l) {
		t.Fatalf("Pass(%s): %d nodes of %d, %v", spell.Print(l), len(got), len(l), err)
	}
	if next := Pass(got); !core.Same(next, got) {
		t.Fatalf("Pass of Pass(%s): %s, not %s", spell.Print(l), spell.Print(next), spell.Print(got))
	}
	return got
}

// settings are beginnings in which a program is run: variables of no items, of
// one, of more, and too long to be one string; with few steps, and no depth.
func settings() []run.Options {
	var all []run.Options
	for _, v := range [][]string{nil, {"a"}, {"b c", "*"}, slices.Repeat([]string{strings.Repeat("d", api.MaxString/2)}, 2)} {
		for _, w := range [][]string{nil, {"x", "f"}} {
			o := run.Defaults()
			o.Vars = []api.Value{{Name: "v", L: v}, {Name: "w", L: w}}
			o.Args = []string{"1", "*"}
			o.In = "one\ntwo three\nfour\n"
			o.Parse = spell.Parse
			all = append(all, o)
		}
	}
	few := all[3]
	for _, steps := range []int{0, 1, 2, 3, 5, 9} {
		few.Steps = steps
		all = append(all, few)
	}
	flat := all[3]
	for depth := range 2 {
		flat.Depth = depth
		all = append(all, flat)
	}
	return all
}

func files() api.World {
	return api.World{
		Files: []api.File{{Name: "f", Data: "in f\nmore\n"}, {Name: "*", Data: "star"}, {Name: "a", Data: ""}},
		Rows:  []api.Row{{Name: "up", Any: true, Reads: true, Copy: true, Out: ":", Status: 3}},
	}
}

// bare is the result without what a pass may change of it.
func bare(r api.Result) api.Result {
	r.Trace, r.Steps = world.Erase(r.Trace), 0
	return r
}

// means asks what the chapter says of the runs of both programs in all the
// settings (P18.3), and counts how those of the first end.
func means(t *testing.T, l, got []api.Node, ends map[error]int, all ...run.Options) {
	t.Helper()
	for i, o := range all {
		before, err := run.Run(l, files(), o)
		if err != nil {
			t.Fatal(spell.Print(l), err)
		}
		after, err := run.Run(got, files(), o)
		same := run.SameResult(bare(before), bare(after)) && after.Steps <= before.Steps
		if before.Err != nil {
			same = world.Begins(world.Erase(before.Trace), world.Erase(after.Trace))
		}
		if err != nil || !same {
			t.Fatalf("%s, then %s, in %d: %.500v, %v; not %.500v", spell.Print(l), spell.Print(got), i, after, err, before)
		}
		ends[before.Err]++
	}
}

// leaves are the shortest commands, and above is all that may stand above one, or
// above two or three.

func leaves() [][]api.Node {
	return [][]api.Node{nop(), say("a"), of(api.Call, core.Lit("false")), of(api.Call, core.Lit("read"), core.Lit("v"))}
}

func aboveOne(kid []api.Node) [][]api.Node {
	sub := of(api.Sub, of(api.Call, core.Lit("cat")))
	return [][]api.Node{
		of(api.Not, kid), of(api.Here, core.Lit("h\ni"), kid), of(api.Here, sub, kid), core.New(api.Local, 0, "v", get("w"), kid),
		core.New(api.Local, 0, "v", sub, kid), core.New(api.Redir, 2, "", core.Lit("f"), kid), of(api.Call, core.Lit("put"), of(api.Sub, kid)),
		of(api.Case, of(api.Sub, kid)), of(api.Here, of(api.Sub, kid), nop()),
	}
}

func aboveTwo(a, b []api.Node) [][]api.Node {
	return [][]api.Node{
		of(api.Seq, a, b), of(api.And, a, b), of(api.Or, a, b), of(api.If, a, b, say("b")), of(api.If, a, nop(), b),
		of(api.Case, core.Lit("x"), of(api.Sub, a), b), of(api.Pipe, a, b),
	}
}

// shorts is all short commands of so many leaves and of so many above them.
func shorts(size int) [][]api.Node {
	if size == 1 {
		return append(leaves(), of(api.Case, get("v")), of(api.Case, of(api.Sub, nop())))
	}
	var all [][]api.Node
	for _, kid := range shorts(size - 1) {
		all = append(all, aboveOne(kid)...)
	}
	for first := 1; first < size-1; first++ {
		for _, a := range shorts(first) {
			for _, b := range shorts(size - 1 - first) {
				all = append(all, aboveTwo(a, b)...)
			}
		}
	}
	return all
}

// All short programs are what the model makes of them, and mean what they have to.
func TestShortPrograms(t *testing.T) {
	all := settings()
	ends := map[error]int{}
	asked, changed := 0, 0
	for size := 1; size <= 4; size++ {
		for _, l := range shorts(size) {
			asked++
			got := follows(t, l)
			if !core.Same(got, l) {
				changed++
			}
			// The longest ones are too many to be run in all of the settings.
			some := all
			if size == 4 {
				some = []run.Options{all[asked%len(all)], all[(asked+5)%len(all)]}
			}
			means(t, l, got, ends, some...)
		}
	}
	if asked < 9000 || changed < 3000 || ends[nil] < 9000 || ends[api.ErrFuel] < 1000 || ends[api.ErrDeep] < 500 || ends[api.ErrBig] < 200 {
		t.Error(asked, changed, ends)
	}
}

// The choices and Seqs alone, in which one thing done may leave another to be
// done, are so a little longer.
func TestShortChoices(t *testing.T) {
	var made func(size int) [][]api.Node
	made = func(size int) [][]api.Node {
		if size == 1 {
			return [][]api.Node{nop(), say("a")}
		}
		var all [][]api.Node
		for _, kid := range made(size - 1) {
			all = append(all, of(api.Not, kid), of(api.Here, core.Lit("h"), kid))
		}
		for first := 1; first < size-1; first++ {
			for _, a := range made(first) {
				for _, b := range made(size - 1 - first) {
					all = append(all, of(api.Seq, a, b), of(api.If, a, b, nop()), of(api.Or, a, b))
				}
			}
		}
		return all
	}
	asked := 0
	for size := 1; size <= 8; size++ {
		for _, l := range made(size) {
			asked++
			follows(t, l)
		}
	}
	if asked < 50000 {
		t.Error(asked)
	}
}

// maker makes programs by chance, the same ones each time.
type maker struct{ *rand.Rand }

func (m maker) one(of ...string) string { return of[m.IntN(len(of))] }

func (m maker) name() string { return m.one("v", "w", "u") }

func (m maker) word(depth int) []api.Node {
	if depth <= 0 {
		return [][]api.Node{get(m.one("v", "w", "u", "*")), core.Lit(m.one("", "a", "b c", "f")), core.New(api.Lit, 1, m.one("*", "?", `\*`)), of(api.Cat)}[m.IntN(4)]
	}
	switch kind := m.IntN(18); kind {
	case api.Cat, api.Join:
		return of(kind, m.word(depth-1), m.word(depth-1))
	case api.Split, api.Glob, api.Plain, api.Esc, api.Flat, api.Count:
		return of(kind, m.word(depth-1))
	case api.Pick:
		return core.New(kind, 1+m.IntN(2), "", m.word(depth-1))
	case api.Sub:
		return of(kind, m.command(depth-1))
	}
	return m.word(0)
}

func (m maker) call(depth int) []api.Node {
	name := m.one("echo", "put", "put", "cat", "true", "false", "false", "eq", "up", "fun", "read", "no", "exit")
	switch {
	case name == "read":
		return of(api.Call, core.Lit(name), core.Lit(m.name()))
	case name == "exit" && m.IntN(4) > 0:
		return say("x")
	}
	return of(api.Call, core.Lit(name), m.word(depth-1))
}

func (m maker) commands(depth, n int) [][]api.Node {
	var all [][]api.Node
	for range n {
		all = append(all, m.command(depth))
	}
	return all
}

func (m maker) command(depth int) []api.Node {
	if depth <= 0 {
		if m.IntN(2) == 0 {
			return nop()
		}
		return m.call(0)
	}
	d := depth - 1
	switch kind := api.Nop + m.IntN(30); kind {
	case api.Nop:
		return nop()
	case api.Set:
		return core.New(kind, 0, m.name(), m.word(d))
	case api.Seq, api.Pipe:
		return of(kind, m.commands(d, 2+m.IntN(3))...)
	case api.If:
		return of(kind, m.commands(d, 3)...)
	case api.And, api.Or:
		return of(kind, m.commands(d, 2)...)
	case api.Not:
		return of(kind, m.command(d))
	case api.While:
		return of(kind, of(api.Call, core.Lit("read"), core.Lit("u")), m.command(d))
	case api.For, api.Local:
		return core.New(kind, 0, m.name(), m.word(d), m.command(d))
	case api.Case:
		return of(kind, [][]api.Node{m.word(d), m.word(d), m.command(d), core.New(api.Lit, 1, "*"), m.command(d)}[:1+2*m.IntN(3)]...)
	case api.Fun:
		return of(api.Seq, core.New(kind, 0, "fun", m.command(d)), of(api.Call, core.Lit("fun"), m.word(d)))
	case api.Redir:
		return core.New(kind, 1+m.IntN(3), "", m.word(d), m.command(d))
	case api.Here:
		return of(kind, m.word(d), m.command(d))
	case api.Eval:
		return of(kind, of(api.Join, core.Lit(`(seq (nop) (call (lit "put") `), m.word(min(d, 1)), core.Lit("))")))
	case api.Frame:
		return of(kind, m.word(d), m.command(d))
	}
	return m.often(d)
}

// often makes what there are rules for.
func (m maker) often(d int) []api.Node {
	switch m.IntN(9) {
	case 0, 1:
		return of(api.Seq, m.command(d), m.command(d))
	case 2:
		return of(api.If, of(api.Not, m.command(d-1)), m.command(d), m.command(d))
	case 3:
		return of(api.Here, m.word(0), of(api.Here, m.word(d-1), m.command(d-1)))
	case 4:
		return core.New(api.Local, 0, m.name(), m.word(d), nop())
	case 5:
		return below(1+m.IntN(4), api.Not, m.command(d-2))
	case 6:
		return of([]int{api.And, api.Or}[m.IntN(2)], nop(), m.command(d))
	case 7:
		return of(api.Seq, nop(), m.command(d), nop())
	}
	return m.call(d)
}

// Programs made by chance are what the model makes of them, and mean what they
// have to.
func TestMadePrograms(t *testing.T) {
	all := settings()
	ends, kinds, changed := map[error]int{}, map[int]int{}, 0
	for seed := range 4000 {
		m := maker{rand.New(rand.NewPCG(uint64(seed), 18))}
		l := core.Seq(m.commands(6, 1+m.IntN(3))...)
		if core.Check(l) != nil {
			if got := Pass(l); !core.Same(got, l) {
				t.Fatal("what may not be is not copied:", seed)
			}
			continue
		}
		got := follows(t, l)
		if !core.Same(got, l) {
			changed++
		}
		for _, n := range l {
			kinds[n.Kind]++
		}
		means(t, l, got, ends, all[seed%len(all)], all[(seed+7)%len(all)])
	}
	// Or else what was asked was asked of too little.
	for kind := range api.Frame + 1 {
		if (core.Word(kind) || core.Command(kind)) && kinds[kind] < 100 {
			t.Errorf("only %d of kind %s", kinds[kind], spell.Kind(kind))
		}
	}
	if changed < 2000 || ends[nil] < 1000 || ends[api.ErrBig] < 100 || ends[api.ErrFuel] < 300 || ends[api.ErrDeep] < 100 {
		t.Error(changed, ends)
	}
}

// What goes may have been what ended the run.
func TestErrorsThatGo(t *testing.T) {
	big := of(api.Flat, of(api.Cat, core.Lit(strings.Repeat("a", api.MaxString)), core.Lit("b")))
	for i, l := range [][]api.Node{
		of(api.Here, big, nop()), core.New(api.Local, 0, "x", big, nop()), of(api.Case, big), of(api.Here, big, of(api.Here, core.Lit("x"), say("b"))),
	} {
		l = of(api.Seq, say("a"), l, say("c"))
		before, err := run.Run(l, files(), run.Defaults())
		after, bad := run.Run(follows(t, l), files(), run.Defaults())
		if err != nil || bad != nil || before.Err != api.ErrBig || after.Err != nil || after.Steps >= 5 {
			t.Error(i, before, after)
		}
		means(t, l, Pass(l), map[error]int{}, run.Defaults())
	}
}
