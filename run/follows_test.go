package run

import (
	"math/rand/v2"
	"slices"
	"testing"

	"patois/api"
	"patois/core"
	"patois/spell"
	"patois/world"
)

// maker makes programs by chance, the same ones each time.
type maker struct{ *rand.Rand }

func newMaker(seed int) maker { return maker{rand.New(rand.NewPCG(uint64(seed), 9))} }

func (m maker) one(of ...string) string { return of[m.IntN(len(of))] }

func (m maker) name() string { return m.one("v", "w", "f", "g") }

func (m maker) leaf() []api.Node {
	switch m.IntN(12) {
	case 0, 1, 2:
		return get(m.one("v", "w", "*"))
	case 3, 4, 5:
		return live(m.one("*", "?", "p", `a\*`, "a b", ""))
	case 6:
		return heavy(api.MaxString - m.IntN(3))
	}
	return lit(m.one("a", "", "p q", "1\n2", "*", "f", "h"))
}

func (m maker) words(depth, least int) [][]api.Node {
	var all [][]api.Node
	for range least + m.IntN(3) {
		all = append(all, m.word(depth))
	}
	return all
}

func (m maker) word(depth int) []api.Node {
	if depth <= 0 {
		return m.leaf()
	}
	switch kind := m.IntN(14); kind {
	case api.Cat, api.Join:
		return of(kind, m.words(depth-1, 1)...)
	case api.Split, api.Glob, api.Plain, api.Esc, api.Flat, api.Count:
		return of(kind, m.word(depth-1))
	case api.Pick:
		return node(kind, 1+m.IntN(3), "", m.word(depth-1))
	case api.Sub:
		return of(kind, m.command(depth-1))
	}
	return m.leaf()
}

func (m maker) call(depth int) []api.Node {
	name := m.one("echo", "put", "cat", "read", "true", "false", "eq", "up", "deaf", "f", "g", "no", "eat")
	if m.IntN(40) == 0 {
		name = "exit"
	}
	words := m.words(depth-1, 0)
	if name == "read" {
		words = lits(m.name())
	}
	return of(api.Call, append([][]api.Node{lit(name)}, words...)...)
}

func (m maker) commands(depth, n int) [][]api.Node {
	var all [][]api.Node
	for range n {
		all = append(all, m.command(depth))
	}
	return all
}

func (m maker) command(depth int) []api.Node {
	if depth <= 0 {
		return m.call(0)
	}
	d := depth - 1
	switch kind := api.Nop + m.IntN(24); kind {
	case api.Nop:
		return nop()
	case api.Set:
		return let(m.name(), m.word(d))
	case api.Seq, api.Pipe:
		return of(kind, m.commands(d, 2+m.IntN(2))...)
	case api.If:
		return of(kind, m.commands(d, 3)...)
	case api.And, api.Or:
		return of(kind, m.commands(d, 2)...)
	case api.Not:
		return of(kind, m.command(d))
	case api.While:
		return of(kind, m.either(call("read", m.name()), m.command(d)), m.command(d))
	case api.For, api.Local:
		return node(kind, 0, m.name(), m.word(d), m.command(d))
	case api.Case:
		return of(kind, m.word(d), m.word(d), m.command(d), live("*"), m.command(d))
	case api.Fun:
		return m.fun(d)
	case api.Redir:
		return node(kind, 1+m.IntN(3), "", m.either(lit(m.one("f", "g", "")), m.word(d)), m.command(d))
	case api.Here:
		return of(kind, m.word(d), m.command(d))
	case api.Eval:
		return of(kind, m.either(lit(spell.Print(m.command(d/2))), m.word(d)))
	case api.Frame:
		return of(kind, append(m.words(d, 0), m.command(d))...)
	}
	return m.call(depth)
}

// fun is a function, which may call itself, and a call of it.
func (m maker) fun(depth int) []api.Node {
	name, body := m.name(), m.command(depth)
	if m.IntN(4) == 0 {
		body = seq(body, call(name, "again"))
	}
	return seq(fun(name, body), of(api.Call, append(lits(name), m.words(depth, 0)...)...))
}

// either is the first more often than not.
func (m maker) either(often, seldom []api.Node) []api.Node {
	if m.IntN(4) > 0 {
		return often
	}
	return seldom
}

// program is a program that may be; false, if by chance it is none.
func (m maker) program() ([]api.Node, bool) {
	l := seq(m.commands(5, 1+m.IntN(4))...)
	return l, core.Check(l) == nil
}

const made = 1500

// eachMade runs many programs, and asks for something of each.
func eachMade(t *testing.T, ask func(l []api.Node, o Options, r api.Result)) {
	t.Helper()
	kinds := map[int]int{}
	ends := map[error]int{}
	for seed := range made {
		l, is := newMaker(seed).program()
		if !is {
			continue
		}
		for _, n := range l {
			kinds[n.Kind]++
		}
		o := echoing()
		r := result(t, l, some(), o)
		ends[r.Err]++
		ask(l, o, r)
	}
	// Or else what was asked was asked of too little.
	for kind := range api.Frame + 1 {
		if (core.Word(kind) || core.Command(kind)) && kinds[kind] < 20 {
			t.Errorf("only %d of kind %s", kinds[kind], spell.Kind(kind))
		}
	}
	if ends[nil] < made/3 || ends[api.ErrFuel] < 20 || ends[api.ErrDeep] < 20 || ends[api.ErrBig] < 20 {
		t.Error("programs do not end in all ways:", ends)
	}
}

// What comes of a run is the same each time, and changes nothing of the program.
func TestRunsAreTheSame(t *testing.T) {
	eachMade(t, func(l []api.Node, o Options, r api.Result) {
		was := slices.Clone(l)
		if again := result(t, l, some(), o); !SameResult(again, r) || !core.Same(l, was) {
			t.Fatal(spell.Print(l))
		}
		if r.Err != nil && r.Status != 0 || r.Steps > o.Steps || r.Status < 0 || r.Status > 255 {
			t.Fatal(spell.Print(l), r)
		}
		// Nothing in it is greater than what a run may begin with.
		o.Vars = r.Vars
		if _, err := Run(nop(), some(), o); err != nil {
			t.Fatal(spell.Print(l), toldVars(r.Vars))
		}
	})
}

// P9.3
func TestMoreSteps(t *testing.T) {
	eachMade(t, func(l []api.Node, o Options, full api.Result) {
		for steps := 0; steps <= api.MaxSteps; steps += 1 + steps/20 {
			o.Steps = steps
			r := result(t, l, some(), o)
			if r.Steps > steps {
				t.Fatal("steps pass o.Steps:", spell.Print(l))
			}
			switch {
			case steps >= full.Steps:
				if !SameResult(r, full) {
					t.Fatal("a run that ended is another:", spell.Print(l), steps)
				}
			case r.Err != api.ErrFuel || r.Steps != steps || r.Status != 0 || !world.Begins(r.Trace, full.Trace):
				t.Fatal("it does not go on:", spell.Print(l), steps)
			}
		}
		if full.Err != api.ErrFuel && full.Steps > 0 {
			o.Steps = full.Steps - 1
			if r := result(t, l, some(), o); r.Err != api.ErrFuel {
				t.Fatal("one step less is enough:", spell.Print(l))
			}
			o.Steps = full.Steps
			if r := result(t, l, some(), o); !SameResult(r, full) {
				t.Fatal("as many steps are too few:", spell.Print(l))
			}
		}
	})
}

// groups are four commands of a kind, grouped in all ways.
func groups(kind int, l ...[]api.Node) [][]api.Node {
	a, b, c, d := l[0], l[1], l[2], l[3]
	g := func(l ...[]api.Node) []api.Node { return of(kind, l...) }
	return [][]api.Node{
		g(a, b, c, d),
		g(g(a, b), c, d), g(a, g(b, c), d), g(a, b, g(c, d)), g(g(a, b), g(c, d)),
		g(g(a, b, c), d), g(a, g(b, c, d)),
		g(g(g(a, b), c), d), g(g(a, g(b, c)), d), g(a, g(g(b, c), d)), g(a, g(b, g(c, d))),
	}
}

// grouped runs four commands that a maker makes, grouped in all ways.
func grouped(t *testing.T, kind int, ask func(first, next api.Result) bool) {
	t.Helper()
	for seed := range made {
		m := newMaker(seed)
		// Something to set out from, so that the commands find functions.
		ahead := seq(fun("f", m.command(2)), let("w", m.word(2)))
		var all [][]api.Node
		for _, l := range groups(kind, m.commands(3, 4)...) {
			all = append(all, seq(ahead, l, call("cat")))
		}
		if slices.ContainsFunc(all, func(l []api.Node) bool { return core.Check(l) != nil }) {
			continue
		}
		first := result(t, all[0], some(), echoing())
		for _, l := range all[1:] {
			if next := result(t, l, some(), echoing()); !ask(first, next) {
				t.Fatalf("%s:\n%v\n%v", spell.Print(l), first, next)
			}
		}
	}
}

// P9.4
func TestSeqsMayBeGrouped(t *testing.T) {
	grouped(t, api.Seq, SameResult)
}

func TestPipesMayBeGrouped(t *testing.T) {
	less := func(r api.Result) api.Result {
		r.Steps = 0
		r.Trace = slices.DeleteFunc(slices.Clone(r.Trace), func(e api.Event) bool { return e.Kind == api.Tube || e.Kind == api.Close })
		return r
	}
	asked := 0
	grouped(t, api.Pipe, func(first, next api.Result) bool {
		// More pipes take more steps: where these are all taken it ends sooner.
		if first.Err == api.ErrFuel || next.Err == api.ErrFuel {
			return true
		}
		asked++
		return SameResult(less(first), less(next))
	})
	if asked < made {
		t.Error("asked only", asked)
	}
}

// A pipe's marks and steps are one for each.
func TestPipesMarks(t *testing.T) {
	p := call("put", "a")
	want := map[string]int{}
	for _, l := range groups(api.Pipe, p, call("cat"), call("cat"), call("up")) {
		r := result(t, l, some(), Defaults())
		pipes := 0
		for _, n := range l {
			if n.Kind == api.Pipe {
				pipes++
			}
		}
		if r.Steps != 4+pipes || told(world.Erase(r.Trace)) != "exec(up)3:a >:a" || r.Status != 3 {
			t.Error(told(r.Trace), r.Steps)
		}
		want[told(r.Trace)]++
	}
	if want["tube4 exec(up)3:a >:a close4"] != 1 || want["tube2 tube2 close2 tube2 exec(up)3:a >:a close2 close2"] != 1 {
		t.Error(want)
	}
}
