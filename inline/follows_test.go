package inline

import (
	"math/rand/v2"
	"slices"
	"strings"
	"testing"

	"patois/api"
	"patois/core"
	"patois/run"
	"patois/spell"
)

// tree is a node with its children, as the model has it.
type tree struct {
	kind, n int
	s       string
	kids    []*tree
}

func treeOf(l []api.Node) *tree {
	x := &tree{kind: l[0].Kind, n: l[0].N, s: l[0].S}
	for _, kid := range core.Kids(l) {
		x.kids = append(x.kids, treeOf(kid))
	}
	return x
}

func (x *tree) nodes() []api.Node {
	var kids [][]api.Node
	for _, kid := range x.kids {
		kids = append(kids, kid.nodes())
	}
	return core.New(x.kind, x.n, x.s, kids...)
}

// all is the tree and all trees below it, each behind those below it.
func (x *tree) all() []*tree {
	var all []*tree
	for _, kid := range x.kids {
		all = append(all, kid.all()...)
	}
	return append(all, x)
}

// knownOf is the model of what is known: the functions' commands by their names.
func (x *tree) knownOf() map[string]*tree {
	known := map[string]*tree{}
	if x.kind != api.Seq || slices.ContainsFunc(x.all(), func(y *tree) bool { return y.kind == api.Eval }) {
		return known
	}
	for _, kid := range x.kids {
		if kid.kind != api.Fun {
			break
		}
		others := slices.ContainsFunc(x.all(), func(y *tree) bool { return y != kid && y.kind == api.Fun && y.s == kid.s })
		if !others {
			known[kid.s] = kid.kids[0]
		}
	}
	return known
}

// turn is the model of the pass: call by call each is made a frame, and is put
// back if the whole program is too much then. It counts those that are put back.
func (x *tree) turn() (back int) {
	known, calls, funs := x.knownOf(), []*tree{}, true
	for _, kid := range x.kids {
		if funs = funs && kid.kind == api.Fun; !funs {
			calls = append(calls, kid.all()...)
		}
	}
	for _, call := range calls {
		if call.kind != api.Call || call.kids[0].kind != api.Lit {
			continue
		}
		command := known[call.kids[0].s]
		if command == nil || len(command.all()) > 24 {
			continue
		}
		was := *call
		*call = tree{kind: api.Frame, kids: append(slices.Clone(call.kids[1:]), treeOf(command.nodes()))}
		if made := x.nodes(); len(made) > 1000 || core.Depth(made) > api.MaxNest {
			*call = was
			back++
		}
	}
	return back
}

// follows asks all that can be told of a program that may be without running it:
// it is what the model makes, and may be. It answers how many calls were put back.
func follows(t *testing.T, l []api.Node) ([]api.Node, int) {
	t.Helper()
	was, x := slices.Clone(l), treeOf(l)
	names := Known(l)
	known := x.knownOf()
	back := x.turn()
	got, want := Pass(l), x.nodes()
	if !core.Same(got, want) || core.Check(got) != nil {
		t.Fatalf("Pass(%s): %s, not %s", spell.Print(l), spell.Print(got), spell.Print(want))
	}
	if len(names) != len(known) || !slices.IsSorted(names) || slices.ContainsFunc(names, func(name string) bool { return known[name] == nil }) {
		t.Fatalf("Known(%s): %q", spell.Print(l), names)
	}
	if !core.Same(l, was) {
		t.Fatalf("%s has changed", spell.Print(was))
	}
	return got, back
}

// settings are beginnings in which a program is run: variables of no items, of
// one, of more, and too long to be one string; as many arguments as may be; with
// few steps, and little depth.
func settings() []run.Options {
	var all []run.Options
	for _, v := range [][]string{nil, {"a"}, {"b c", "*"}, slices.Repeat([]string{strings.Repeat("d", api.MaxString/2)}, 2)} {
		for _, args := range [][]string{nil, {"1", "*"}, slices.Repeat([]string{"z"}, api.MaxList)} {
			o := run.Defaults()
			o.Vars = []api.Value{{Name: "v", L: v}, {Name: "w", L: []string{"x", "f"}}}
			o.Args = args
			o.In = "one\ntwo three\nfour\n"
			o.Parse = spell.Parse
			all = append(all, o)
		}
	}
	few := all[4]
	for _, steps := range []int{0, 1, 2, 3, 4, 5, 7, 9} {
		few.Steps = steps
		all = append(all, few)
	}
	flat := all[4]
	for depth := range 5 {
		flat.Depth = depth
		all = append(all, flat)
	}
	return all
}

func files() api.World {
	return api.World{
		Files: []api.File{{Name: "f", Data: "in f\nmore\n"}, {Name: "*", Data: "star"}, {Name: "a", Data: ""}},
		Rows: []api.Row{
			{Name: "up", Any: true, Reads: true, Copy: true, Out: ":", Status: 3},
			// What a name would be if it were no function's.
			{Name: "g", Any: true, Out: "the world's g"},
		},
	}
}

// means asks that the runs of both programs are the same, in all, in all of the
// settings (P19.4), and counts how they end.
func means(t *testing.T, l, got []api.Node, ends map[error]int, all ...run.Options) {
	t.Helper()
	for i, o := range all {
		before, err := run.Run(l, files(), o)
		if err != nil {
			t.Fatal(spell.Print(l), err)
		}
		after, err := run.Run(got, files(), o)
		if err != nil || !run.SameResult(before, after) {
			t.Fatalf("%s, then %s, in %d: %.500v, %v; not %.500v", spell.Print(l), spell.Print(got), i, after, err, before)
		}
		ends[before.Err]++
	}
}

// leaves are the shortest commands, and above is all that may stand above one, or
// above two.

func leaves() [][]api.Node {
	return [][]api.Node{nop(), call("put", get("*")), call("f"), call("g", core.Lit("x"), get("*")), call("read", core.Lit("v"))}
}

func aboveOne(kid []api.Node) [][]api.Node {
	return [][]api.Node{
		of(api.Not, kid), call("f", of(api.Sub, kid)), fun("g", kid), core.New(api.For, 0, "w", get("*"), kid), of(api.Here, get("w"), kid),
		of(api.While, call("read", core.Lit("w")), kid), of(api.Eval, core.Lit(spell.Print(kid))),
	}
}

func aboveTwo(a, b []api.Node) [][]api.Node {
	return [][]api.Node{of(api.Seq, a, b), of(api.Pipe, a, b), of(api.Or, a, b)}
}

// shorts is all short commands of so many leaves and of so many above them.
func shorts(size int) [][]api.Node {
	if size == 1 {
		return leaves()
	}
	var all [][]api.Node
	for _, kid := range shorts(size - 1) {
		all = append(all, aboveOne(kid)...)
	}
	for first := 1; first < size-1; first++ {
		for _, a := range shorts(first) {
			for _, b := range shorts(size - 1 - first) {
				all = append(all, aboveTwo(a, b)...)
			}
		}
	}
	return all
}

// All short programs behind two functions, of all short commands, are what the
// model makes of them, and mean the same.
func TestShortPrograms(t *testing.T) {
	all := settings()
	ends := map[error]int{}
	asked, changed := 0, 0
	ask := func(l []api.Node) {
		asked++
		got, _ := follows(t, l)
		if core.Same(got, l) {
			return
		}
		// They are too many to be run in all of the settings.
		means(t, l, got, ends, all[changed%len(all)], all[(changed+7)%len(all)])
		changed++
	}
	one, two, three := shorts(1), shorts(2), shorts(3)
	for _, f := range slices.Concat(one, two) {
		for _, g := range one {
			for _, l := range slices.Concat(one, two) {
				ask(core.Seq(fun("f", f), fun("g", g), l))
			}
		}
	}
	for _, f := range one {
		for _, l := range three {
			ask(core.Seq(fun("f", f), l))
			ask(core.Seq(fun("f", f), fun("g", nop()), l, call("f", core.Lit("y"))))
		}
	}
	for _, f := range three {
		ask(core.Seq(fun("f", f), call("f", core.Lit("y"), core.Lit("z"))))
		ask(core.Seq(fun("g", nop()), fun("f", f), of(api.Pipe, call("g"), call("f", get("*")))))
	}
	if asked < 10000 || changed < 4000 || ends[nil] < 4000 || ends[api.ErrFuel] < 1000 || ends[api.ErrDeep] < 1000 || ends[api.ErrBig] < 300 {
		t.Error(asked, changed, ends)
	}
}

// maker makes programs by chance, the same ones each time.
type maker struct{ *rand.Rand }

func (m maker) one(of ...string) string { return of[m.IntN(len(of))] }

func (m maker) name() string { return m.one("v", "w", "u") }

func (m maker) word(depth int) []api.Node {
	if depth <= 0 {
		return [][]api.Node{get(m.one("v", "w", "*", "*")), core.Lit(m.one("", "a", "b c", "f")), core.New(api.Lit, 1, m.one("*", "f", `\*`)), of(api.Cat)}[m.IntN(4)]
	}
	switch kind := m.IntN(18); kind {
	case api.Cat, api.Join:
		return of(kind, m.word(depth-1), m.word(depth-1))
	case api.Split, api.Glob, api.Plain, api.Esc, api.Flat, api.Count:
		return of(kind, m.word(depth-1))
	case api.Pick:
		return core.New(kind, 1+m.IntN(2), "", m.word(depth-1))
	case api.Sub, api.Sub + 1:
		return of(api.Sub, m.command(depth-1))
	}
	return m.word(0)
}

// call is of a function, most times, or of something else.
func (m maker) call(depth int) []api.Node {
	if m.IntN(2) == 0 {
		first := core.New(api.Lit, m.IntN(2), m.one("f", "g", "h", "k"))
		if m.IntN(9) == 0 {
			first = of(api.Join, first)
		}
		return of(api.Call, append([][]api.Node{first}, m.words(depth-1, m.IntN(4))...)...)
	}
	name := m.one("echo", "put", "put", "cat", "true", "false", "eq", "up", "read", "no", "exit")
	switch {
	case name == "read":
		return call(name, core.Lit(m.name()))
	case name == "exit" && m.IntN(6) > 0:
		return call("put", get("*"))
	}
	return call(name, m.words(depth-1, 1+m.IntN(2))...)
}

func (m maker) words(depth, n int) [][]api.Node {
	var all [][]api.Node
	for range n {
		all = append(all, m.word(depth))
	}
	return all
}

func (m maker) commands(depth, n int) [][]api.Node {
	var all [][]api.Node
	for range n {
		all = append(all, m.command(depth))
	}
	return all
}

func (m maker) command(depth int) []api.Node {
	if depth <= 0 {
		if m.IntN(4) == 0 {
			return nop()
		}
		return m.call(0)
	}
	d := depth - 1
	switch kind := api.Nop + m.IntN(30); kind {
	case api.Nop:
		return nop()
	case api.Set:
		return core.New(kind, 0, m.name(), m.word(d))
	case api.Seq, api.Pipe:
		return of(kind, m.commands(d, 2+m.IntN(3))...)
	case api.If:
		return of(kind, m.commands(d, 3)...)
	case api.And, api.Or:
		return of(kind, m.commands(d, 2)...)
	case api.Not:
		return of(kind, m.command(d))
	case api.While:
		return of(kind, call("read", core.Lit("u")), m.command(d))
	case api.For, api.Local:
		return core.New(kind, 0, m.name(), m.word(d), m.command(d))
	case api.Case:
		return of(kind, [][]api.Node{m.word(d), m.word(d), m.command(d), core.New(api.Lit, 1, "*"), m.command(d)}[:1+2*m.IntN(3)]...)
	case api.Fun:
		return fun(m.one("k", "k", "k", "f", "l", "m"), m.command(d))
	case api.Redir:
		return core.New(kind, 1+m.IntN(3), "", m.word(d), m.command(d))
	case api.Here:
		return of(kind, m.word(d), m.command(d))
	case api.Eval:
		if m.IntN(9) == 0 {
			return of(kind, of(api.Join, core.Lit(`(call (lit "put") `), m.word(0), core.Lit(")")))
		}
	case api.Frame:
		return of(kind, m.word(d), m.command(d))
	}
	return m.call(d)
}

// program is some functions and what calls them.
func (m maker) program(depth, n int) []api.Node {
	var all [][]api.Node
	for range 1 + m.IntN(4) {
		all = append(all, fun(m.one("f", "g", "h", "f", "g", "h", "p", "q", "r"), m.command(m.IntN(4))))
	}
	return core.Seq(append(all, m.commands(depth, n)...)...)
}

// Programs made by chance are what the model makes of them, and mean the same;
// as they do when they are passed again.
func TestMadePrograms(t *testing.T) {
	all := settings()
	ends, kinds, changed, again := map[error]int{}, map[int]int{}, 0, 0
	for seed := range 5000 {
		m := maker{rand.New(rand.NewPCG(uint64(seed), 19))}
		l := m.program(5, 1+m.IntN(3))
		if core.Check(l) != nil {
			continue
		}
		got, _ := follows(t, l)
		next, _ := follows(t, got)
		for _, n := range l {
			kinds[n.Kind]++
		}
		if core.Same(got, l) {
			continue
		}
		changed++
		if !core.Same(next, got) {
			again++
		}
		some := []run.Options{all[seed%len(all)], all[(seed+7)%len(all)], all[0]}
		means(t, l, got, ends, some...)
		means(t, got, next, ends, some...)
	}
	// Or else what was asked was asked of too little.
	for kind := range api.Frame + 1 {
		if (core.Word(kind) || core.Command(kind)) && kinds[kind] < 100 {
			t.Errorf("only %d of kind %s", kinds[kind], spell.Kind(kind))
		}
	}
	if changed < 1200 || again < 200 || ends[nil] < 4000 || ends[api.ErrBig] < 300 || ends[api.ErrFuel] < 300 || ends[api.ErrDeep] < 300 {
		t.Error(changed, again, ends)
	}
}

// Programs that are near the bounds are what the model makes of them.
func TestLargePrograms(t *testing.T) {
	all := settings()
	ends, asked, some, none, changed := map[error]int{}, 0, 0, 0, 0
	for seed := range 600 {
		m := maker{rand.New(rand.NewPCG(uint64(seed), 20))}
		l := m.program(4, 30+m.IntN(30))
		if m.IntN(3) == 0 {
			l = lowered(m, m.program(5, 4))
		}
		if l = fattened(m, l); core.Check(l) != nil {
			continue
		}
		asked++
		got, back := follows(t, l)
		switch {
		case core.Same(got, l) && back > 0:
			none++
		case back > 0:
			some++
		}
		if !core.Same(got, l) {
			changed++
			means(t, l, got, ends, all[seed%len(all)])
		}
	}
	if asked < 300 || some < 50 || none < 10 || changed < 100 {
		t.Error(asked, some, none, changed, ends)
	}
}

// lowered is the program with its last command, if that may be, as deep as may be.
func lowered(m maker, l []api.Node) []api.Node {
	commands := core.Kids(l)
	if len(commands) < 2 {
		return l
	}
	last := len(commands) - 1
	room := api.MaxNest - 1 - core.Depth(commands[last])
	commands[last] = below(max(room-m.IntN(4), 0), api.Not, commands[last])
	return core.Seq(commands...)
}

// fattened is the program made nearly 1000 nodes large.
func fattened(m maker, l []api.Node) []api.Node {
	room := 1010 - len(l) - m.IntN(60)
	if room < 2 {
		return l
	}
	return core.Seq(append(core.Kids(l), nops(room))...)
}

// Functions that go on for ever do so in frames too, and end there as they did.
func TestFunctionsThatGoOn(t *testing.T) {
	ends := map[error]int{}
	for i, s := range []string{
		`(seq (fun "f" $f) $f)`,
		`(seq (fun "f" (seq (call (lit "put") (lit "a")) $f)) $f)`,
		`(seq (fun "f" $g) (fun "g" $f) (pipe $f $g))`,
		`(seq (fun "f" (while nop nop)) $f)`,
		`(seq (fun "f" (call (lit "f") (var "*") (var "*"))) (call (lit "f") (lit "a")))`,
		`(seq (fun "f" (call (lit "f") (sub $f))) $f)`,
		`(seq @f (while nop (call (lit "f") (lit "a"))))`,
	} {
		l := program(t, short.Replace(s))
		got, _ := follows(t, l)
		before := ends[nil]
		means(t, l, got, ends, settings()[0])
		if ends[nil] != before || core.Same(got, l) {
			t.Error(i, ends)
		}
		means(t, l, got, ends, settings()...)
	}
	if ends[api.ErrDeep] == 0 || ends[api.ErrFuel] == 0 || ends[api.ErrBig] == 0 {
		t.Error(ends)
	}
}

// A call has room for one item less than its list, beside the name, and so has
// the frame: the words ahead of one too many are run, those behind are not.
func TestAsManyItemsAsMayBe(t *testing.T) {
	for n, want := range map[int]error{98: nil, 99: nil, 100: api.ErrBig} {
		// asks is a word of no items that shows in the trace.
		asks := func(name string) []api.Node { return core.New(api.Pick, 9, "", of(api.Sub, call(name))) }
		l := core.Seq(
			fun("f", call("put", of(api.Count, get("*")))), core.New(api.Set, 0, "n", of(api.Cat, slices.Repeat([][]api.Node{core.Lit("x")}, n)...)),
			call("f", asks("ahead"), get("n"), asks("behind")),
		)
		got, _ := follows(t, l)
		r, err := run.Run(got, files(), run.Defaults())
		if err != nil || r.Err != want || !core.Has(got, api.Frame) {
			t.Error(n, r, err)
		}
		if asked := len(r.Trace); want == nil && asked != 3 || want != nil && asked != 1 {
			t.Error(n, r.Trace)
		}
		means(t, l, got, map[error]int{}, settings()...)
	}
}
