package run

import (
	"slices"
	"strconv"
	"strings"
	"testing"

	"patois/api"
	"patois/core"
	"patois/spell"
	"patois/world"
)

// Programs, in short.

func node(kind, n int, s string, kids ...[]api.Node) []api.Node { return core.New(kind, n, s, kids...) }

// of is a node that has nothing but its kind and its children.
func of(kind int, kids ...[]api.Node) []api.Node { return node(kind, 0, "", kids...) }

func lit(s string) []api.Node { return core.Lit(s) }

func live(s string) []api.Node { return node(api.Lit, 1, s) }

func get(name string) []api.Node { return node(api.Var, 0, name) }

func lits(items ...string) [][]api.Node {
	var all [][]api.Node
	for _, item := range items {
		all = append(all, lit(item))
	}
	return all
}

// list is a word of these items.
func list(items ...string) []api.Node { return of(api.Cat, lits(items...)...) }

func call(items ...string) []api.Node { return of(api.Call, lits(items...)...) }

// show says the words, with spaces between.
func show(words ...[]api.Node) []api.Node {
	return of(api.Call, append([][]api.Node{lit("put")}, words...)...)
}

func let(name string, word []api.Node) []api.Node { return node(api.Set, 0, name, word) }

func fun(name string, command []api.Node) []api.Node { return node(api.Fun, 0, name, command) }

func local(name string, word, command []api.Node) []api.Node {
	return node(api.Local, 0, name, word, command)
}

func each(name string, word, command []api.Node) []api.Node {
	return node(api.For, 0, name, word, command)
}

func redir(mode int, file string, command []api.Node) []api.Node {
	return node(api.Redir, mode, "", lit(file), command)
}

func here(word, command []api.Node) []api.Node { return of(api.Here, word, command) }

func sub(command []api.Node) []api.Node { return of(api.Sub, command) }

func pipe(commands ...[]api.Node) []api.Node { return of(api.Pipe, commands...) }

func eval(source string) []api.Node { return of(api.Eval, lit(source)) }

func seq(commands ...[]api.Node) []api.Node { return core.Seq(commands...) }

func nop() []api.Node { return seq() }

// ls is a list of strings.
func ls(items ...string) []string { return items }

// x is n bytes.
func x(n int) string { return strings.Repeat("x", n) }

// xs is n items of one byte.
func xs(n int) []string { return slices.Repeat(ls("x"), n) }

// What came of it, in short.

// told is events as text, newlines as bars.
func told(events []api.Event) string {
	var all []string
	for _, e := range events {
		n := strconv.Itoa(e.N)
		switch e.Kind {
		case api.Exec:
			all = append(all, "exec("+strings.Join(append(ls(e.A), e.L...), ",")+")"+n+":"+e.B)
		case api.Open:
			all = append(all, "open"+n+"("+e.A+")")
		case api.Write:
			all = append(all, e.A+">"+e.B)
		case api.Tube:
			all = append(all, "tube"+n)
		case api.Dup:
			all = append(all, "dup"+n)
		case api.Close:
			all = append(all, "close"+n)
		}
	}
	return strings.ReplaceAll(strings.Join(all, " "), "\n", "|")
}

// toldVars is variables as text.
func toldVars(vars []api.Value) string {
	var all []string
	for _, v := range vars {
		all = append(all, v.Name+"=("+strings.Join(v.L, ",")+")")
	}
	return strings.Join(all, " ")
}

func toldFiles(files []api.File) string {
	var all []string
	for _, f := range files {
		all = append(all, f.Name+":"+strings.ReplaceAll(f.Data, "\n", "|"))
	}
	return strings.Join(all, " ")
}

// some is the world of these tests.
func some() api.World {
	return api.World{
		Files: []api.File{{Name: "f", Data: "one\ntwo\n"}, {Name: "a.c", Data: "c"}},
		Rows: []api.Row{
			{Name: "up", Any: true, Reads: true, Copy: true, Out: ":", Status: 3},
			{Name: "deaf", Any: true, Copy: true, Out: "!"},
			{Name: "eat", Args: ls("a"), Reads: true, Status: 255},
			{Name: "cat", Any: true, Out: "never"},
		},
	}
}

// with is the options of a run that hears in, has these arguments, and a
// variable v of two items.
func with(in string, args ...string) Options {
	o := Defaults()
	o.In, o.Args, o.Vars = in, args, []api.Value{{Name: "v", L: ls("p", "q")}}
	return o
}

// result is the result of a program that may be.
func result(t *testing.T, l []api.Node, w api.World, o Options) api.Result {
	t.Helper()
	r, err := Run(l, w, o)
	if err != nil {
		t.Fatalf("%v of %.300s", err, spell.Print(l))
	}
	return r
}

// ends runs a program over some world and asks for its events, status, error and
// steps.
func ends(t *testing.T, l []api.Node, events string, status int, bad error, steps int) api.Result {
	t.Helper()
	r := result(t, l, some(), with("i1\ni2\ni3", "A", "B"))
	if got := told(r.Trace); got != events || r.Status != status || r.Err != bad || r.Steps != steps {
		t.Errorf("%.300s:\n%.300q %d %v %d, not\n%.300q %d %v %d", spell.Print(l), got, r.Status, r.Err, r.Steps, events, status, bad, steps)
	}
	return r
}

// well is ends without an error.
func well(t *testing.T, l []api.Node, events string, status, steps int) {
	t.Helper()
	ends(t, l, events, status, nil, steps)
}

// P9.1: words

// makes asks for a word's list.
func makes(t *testing.T, word []api.Node, want ...string) {
	t.Helper()
	got, err := Word(word, some(), with("i1\ni2", "A", "B"))
	if err != nil || !slices.Equal(got, want) {
		t.Errorf("%.300s: %.300q %v, not %.300q", spell.Print(word), got, err, want)
	}
}

func TestWords(t *testing.T) {
	makes(t, lit("a b*"), "a b*")
	makes(t, lit(""), "")
	makes(t, live(`a\*`), `a\*`)
	makes(t, get("v"), "p", "q")
	makes(t, get("none"))
	makes(t, get("*"), "A", "B")
	makes(t, list())
	makes(t, list("a"), "a")
	makes(t, of(api.Cat, get("v"), get("none"), lit(""), get("*")), "p", "q", "", "A", "B")
	makes(t, of(api.Split, live(`a b\ c  d`)), "a", `b\ c`, "d")
	makes(t, of(api.Split, of(api.Cat, live(" "), live("a b"))), "a", "b")
	makes(t, of(api.Glob, of(api.Cat, live("?"), live("*.c"), live("q*"), live(`\*`))), "f", "a.c", "q*", "*")
	makes(t, of(api.Plain, live(`a\*\\`)), `a*\`)
	makes(t, of(api.Esc, list("a*", "b c")), `a\*`, `b\ c`)
	makes(t, of(api.Flat, get("v")), "p q")
	makes(t, of(api.Flat, list()), "")
	makes(t, of(api.Count, get("v")), "2")
	makes(t, of(api.Count, list()), "0")
	makes(t, node(api.Pick, 1, "", get("v")), "p")
	makes(t, node(api.Pick, 2, "", get("v")), "q")
	makes(t, node(api.Pick, 3, "", get("v")))
	makes(t, node(api.Pick, 99, "", list(xs(api.MaxList)...)), "x")
	makes(t, of(api.Count, of(api.Split, of(api.Esc, of(api.Cat, lit("a b"), get("v"))))), "3")
}

func TestJoin(t *testing.T) {
	makes(t, of(api.Join, lit("-"), get("v")), "-p", "-q")
	makes(t, of(api.Join, get("v"), lit("-")), "p-", "q-")
	makes(t, of(api.Join, get("v"), get("*")), "pA", "qB")
	makes(t, of(api.Join, list("a", "b", "c"), get("v")), "ap", "bq")
	makes(t, of(api.Join, get("v")), "p", "q")
	makes(t, of(api.Join, list()), "")
	makes(t, of(api.Join, list(), list()), "")
	makes(t, of(api.Join, get("v"), list()), "p", "q")
	makes(t, of(api.Join, list(), get("v")), "p", "q")
	makes(t, of(api.Join, list("a"), list(), lit("b"), get("v"), lit("c")), "abpc", "abqc")
	// From the left: three and two are two, and those with three are two.
	makes(t, of(api.Join, list("a", "b", "c"), list("1", "2"), list("x", "y", "z")), "a1x", "b2y")
}

func TestSub(t *testing.T) {
	makes(t, sub(nop()), "")
	makes(t, sub(call("put", "a b")), "a b")
	makes(t, sub(seq(call("echo", "a"), call("echo", "\n\nb\n\n"))), "a\n\n\nb")
	makes(t, sub(call("echo", "\n")), "")
	makes(t, sub(call("false")), "")
	makes(t, of(api.Join, sub(call("put", "a")), get("v"), sub(call("cat"))), "api1\ni2", "aqi1\ni2")
	makes(t, sub(show(sub(show(sub(call("echo", "in")))))), "in")
}

// What is caught goes to nobody; what is heard in a Sub is heard no more.
func TestSubCatches(t *testing.T) {
	well(t, show(sub(seq(call("echo", "a"), call("up"), call("read", "z")))), "exec(up)3:i1|i2|i3 >a|:i1|i2|i3", 0, 5)
	well(t, seq(let("y", sub(call("read", "z"))), show(get("y"), get("z")), call("cat")), "> i1 >i2|i3", 0, 5)
	well(t, let("y", sub(redir(2, "g", call("put", "a")))), "dup2 open2(g) g>a close2", 0, 4)
	well(t, redir(2, "g", let("y", sub(call("put", "a")))), "dup2 open2(g) close2", 0, 4)
	well(t, seq(let("y", sub(call("put", "a"))), show(get("y"))), ">a", 0, 4)
	// What it says behind a Sub is where it said ahead of it.
	well(t, redir(2, "g", show(lit("b"), sub(call("put", "a")))), "dup2 open2(g) g>b a close2", 0, 4)
}

// A Glob asks for the files as they are when its child is known.
func TestGlobSeesWhatIsThere(t *testing.T) {
	made := of(api.Join, live("g"), of(api.Esc, sub(redir(2, "g1", nop()))), live("*"))
	well(t, show(of(api.Glob, made)), "dup2 open2(g1) close2 >g1", 0, 3)
	well(t, seq(redir(3, "h", nop()), show(of(api.Glob, live("?")))), "dup3 open3(h) close3 >f h", 0, 2)
}

// P9.1: commands

func TestCalls(t *testing.T) {
	well(t, nop(), "", 0, 0)
	well(t, call("echo", "a"), ">a|", 0, 1)
	well(t, call("echo"), ">|", 0, 1)
	well(t, call("put"), "", 0, 1)
	well(t, of(api.Call, list()), "", 0, 1)
	well(t, of(api.Call, get("none"), get("none")), "", 0, 1)
	well(t, seq(call("false"), of(api.Call, list())), "", 0, 2)
	well(t, of(api.Call, list(), lit("put"), get("v"), list("", "a")), ">p q  a", 0, 1)
	well(t, of(api.Call, list("put", "a"), lit("b")), ">a b", 0, 1)
	well(t, call("put", "a b", "*", "$v"), ">a b * $v", 0, 1)
	well(t, call("false"), "", 1, 1)
	well(t, call("add", "2", "3"), ">5|", 0, 1)
	well(t, of(api.Call, sub(call("put", "echo")), sub(call("put", "a"))), ">a|", 0, 5)
}

func TestBuiltinsHear(t *testing.T) {
	well(t, seq(call("read", "z"), show(get("z")), call("cat"), call("cat"), call("read", "z"), show(get("z"))), ">i1 >i2|i3 >i1", 0, 6)
	well(t, seq(call("cat"), call("read", "z")), ">i1|i2|i3", 1, 2)
	well(t, seq(call("true"), call("read", "1"), call("cat")), ">i1|i2|i3", 0, 3)
	r := ends(t, seq(call("read", "z"), call("read", "v"), call("read", "y"), call("read", "none")), "", 1, nil, 4)
	if got := toldVars(r.Vars); got != "v=(i2) y=(i3) z=(i1)" {
		t.Error(got)
	}
}

func TestCommandsOfTheWorld(t *testing.T) {
	well(t, call("up"), "exec(up)3:i1|i2|i3 >:i1|i2|i3", 3, 1)
	well(t, seq(call("up", "a"), call("up"), call("cat")), "exec(up,a)3:i1|i2|i3 >:i1|i2|i3 exec(up)3: >:", 0, 3)
	// One that copies what it does not read leaves it.
	well(t, seq(call("deaf"), call("cat")), "exec(deaf)0: >!i1|i2|i3 >i1|i2|i3", 0, 2)
	well(t, seq(call("eat", "a"), call("cat")), "exec(eat,a)255:i1|i2|i3", 0, 2)
	well(t, call("eat", "a"), "exec(eat,a)255:i1|i2|i3", 255, 1)
	well(t, seq(call("eat", "b"), call("cat")), "exec(eat,b)127: >i1|i2|i3", 0, 2)
	well(t, call("no", "a", "b"), "exec(no,a,b)127:", 127, 1)
	well(t, call(""), "exec()127:", 127, 1)
	well(t, show(sub(call("up"))), "exec(up)3:i1|i2|i3 >:i1|i2|i3", 0, 3)
}

func TestFunctions(t *testing.T) {
	f := fun("f", show(lit("f"), get("*")))
	well(t, f, "", 0, 1)
	well(t, seq(call("false"), f), "", 0, 2)
	well(t, seq(f, call("f", "a", "b")), ">f a b", 0, 3)
	well(t, seq(f, call("f"), show(get("*"))), ">f >A B", 0, 4)
	well(t, call("f"), "exec(f)127:", 127, 1)
	// A function goes ahead of a builtin, and of a command of the world.
	well(t, seq(fun("cat", call("put", "mine")), call("cat"), fun("up", call("false")), call("up")), ">mine", 1, 6)
	// It sees the caller's variables, and the caller its.
	well(t, seq(fun("f", seq(show(get("v")), let("v", lit("new")))), call("f"), show(get("v"))), ">p q >new", 0, 5)
	// What stands for a name may change while it runs.
	well(t, seq(fun("f", seq(fun("f", call("put", "2")), call("put", "1"))), call("f"), call("f")), ">1 >2", 0, 6)
	// What it hears and where it says is the caller's.
	well(t, seq(fun("f", seq(call("read", "z"), call("put", "a"))), redir(2, "g", call("f")), call("cat")), "dup2 open2(g) g>a close2 >i2|i3", 0, 6)
	// The arguments are the caller's until all words are known.
	well(t, seq(fun("f", seq(call("g", "in"), show(get("*")))), fun("g", show(get("*"))), of(api.Call, lit("f"), get("*"))), ">in >A B", 0, 6)
	// A function of a function's body is there behind it.
	well(t, seq(fun("f", fun("g", call("put", "g"))), call("g"), call("f"), call("g")), "exec(g)127: >g", 0, 6)
	well(t, seq(fun("f", call("false")), call("f")), "", 1, 3)
}

func TestSet(t *testing.T) {
	r := ends(t, seq(let("a", get("v")), let("e", list()), let("v", lit("")), call("false"), let("_1", of(api.Count, get("e")))), "", 0, nil, 5)
	if got := toldVars(r.Vars); got != "_1=(0) a=(p,q) e=() v=()" {
		t.Error(got)
	}
	well(t, seq(let("v", of(api.Cat, get("v"), get("v"))), show(get("v"))), ">p q p q", 0, 2)
}

func TestSeqs(t *testing.T) {
	well(t, seq(call("true"), call("false")), "", 1, 2)
	well(t, seq(call("false"), call("true"), nop()), "", 0, 2)
	well(t, seq(seq(call("put", "a"), call("put", "b")), call("put", "c")), ">a >b >c", 0, 3)
}

func TestChoices(t *testing.T) {
	yes, no, a, b := call("true"), call("up"), call("put", "a"), call("put", "b")
	up := "exec(up)3:i1|i2|i3 >:i1|i2|i3"
	well(t, of(api.If, yes, a, b), ">a", 0, 2)
	well(t, of(api.If, no, a, b), up+" >b", 0, 2)
	well(t, of(api.If, nop(), a, b), ">a", 0, 1)
	well(t, of(api.If, yes, no, a), up, 3, 2)
	well(t, of(api.If, call("false"), a, no), up, 3, 2)
	well(t, of(api.If, no, a, nop()), up, 0, 1)
	well(t, of(api.And, yes, a), ">a", 0, 2)
	well(t, of(api.And, yes, no), up, 3, 2)
	well(t, of(api.And, no, a), up, 3, 1)
	well(t, of(api.Or, yes, a), "", 0, 1)
	well(t, of(api.Or, no, a), up+" >a", 0, 2)
	well(t, of(api.Or, call("false"), no), up, 3, 2)
	well(t, of(api.Or, call("false"), call("false")), "", 1, 2)
	well(t, of(api.Not, yes), "", 1, 1)
	well(t, of(api.Not, call("false")), "", 0, 1)
	well(t, of(api.Not, no), up, 0, 1)
	well(t, of(api.Not, of(api.Not, no)), up, 1, 1)
	well(t, of(api.Not, nop()), "", 1, 0)
}

func TestWhile(t *testing.T) {
	well(t, of(api.While, call("false"), call("put", "a")), "", 0, 2)
	well(t, seq(call("false"), of(api.While, call("up"), nop())), "exec(up)3:i1|i2|i3 >:i1|i2|i3", 0, 3)
	well(t, of(api.While, call("read", "z"), show(get("z"))), ">i1 >i2 >i3", 0, 11)
	// The second's last status, whatever the first's was.
	well(t, of(api.While, call("read", "z"), of(api.Call, lit("eq"), get("z"), lit("i3"))), "", 0, 11)
	well(t, of(api.While, call("read", "z"), of(api.Call, lit("eq"), get("z"), lit("i1"))), "", 1, 11)
	ends(t, of(api.While, nop(), nop()), "", 0, api.ErrFuel, api.MaxSteps)
}

func TestFor(t *testing.T) {
	well(t, each("i", list(), call("put", "a")), "", 0, 0)
	well(t, seq(call("false"), each("i", list(), call("put", "a"))), "", 0, 1)
	well(t, each("i", get("v"), show(lit("-"), get("i"))), ">- p >- q", 0, 4)
	well(t, each("i", get("v"), of(api.Call, lit("eq"), get("i"), lit("p"))), "", 1, 4)
	well(t, each("i", get("v"), of(api.Call, lit("eq"), get("i"), lit("q"))), "", 0, 4)
	well(t, each("i", get("v"), nop()), "", 0, 2)
	// The word is asked once, and the variable stays.
	r := ends(t, each("v", get("v"), let("v", of(api.Cat, get("v"), get("v"), lit("+")))), "", 0, nil, 4)
	if got := toldVars(r.Vars); got != "v=(q,q,+)" {
		t.Error(got)
	}
	well(t, each("i", of(api.Cat, sub(call("put", "a")), lit("b")), show(get("i"))), ">a >b", 0, 6)
	if got := toldVars(ends(t, each("i", list(), nop()), "", 0, nil, 0).Vars); got != "v=(p,q)" {
		t.Error(got)
	}
}

func TestCase(t *testing.T) {
	a, b := call("put", "a"), call("put", "b")
	well(t, of(api.Case, lit("ab")), "", 0, 1)
	well(t, seq(call("false"), of(api.Case, lit("ab"), live("x"), a)), "", 0, 2)
	well(t, of(api.Case, lit("ab"), live("x*"), a, live("a?"), b, live("*"), a), ">b", 0, 2)
	well(t, of(api.Case, lit("ab"), of(api.Cat, live("x"), live("[a]b")), a), ">a", 0, 2)
	well(t, of(api.Case, lit("ab"), list(), a, live("*"), call("false")), "", 1, 2)
	well(t, of(api.Case, get("v"), live("p?q"), a), ">a", 0, 2)
	well(t, of(api.Case, list(), live(""), a), ">a", 0, 2)
	well(t, of(api.Case, lit("*"), live(`\*`), a), ">a", 0, 2)
	well(t, of(api.Case, lit("x"), of(api.Esc, lit("*")), a), "", 0, 1)
	// Words are patterns whatever they are of.
	well(t, of(api.Case, lit("x"), lit("*"), a), ">a", 0, 2)
	// Patterns are asked in order, and none behind those that match.
	say := func(s string) []api.Node { return sub(seq(redir(3, s, nop()), call("put", s))) }
	well(t, of(api.Case, say("w"), say("m"), a, say("w"), b, say("n"), a), "dup3 open3(w) close3 dup3 open3(m) close3 dup3 open3(w) close3 >b", 0, 11)
}

func TestPipes(t *testing.T) {
	well(t, pipe(call("echo", "a"), call("cat")), "tube2 >a| close2", 0, 3)
	well(t, pipe(call("echo", "a"), call("up"), call("cat")), "tube3 exec(up)3:a| >:a| close3", 0, 4)
	well(t, pipe(call("false"), call("true")), "tube2 close2", 0, 3)
	well(t, pipe(call("true"), call("up")), "tube2 exec(up)3: >: close2", 3, 3)
	// The first hears what the pipe does, and what it leaves is left; what the
	// others leave is gone.
	well(t, seq(pipe(call("read", "z"), call("cat")), show(get("z")), call("cat")), "tube2 close2 >i1 >i2|i3", 0, 5)
	well(t, seq(pipe(call("put", "a\nb"), call("read", "z")), show(get("z")), call("cat")), "tube2 close2 >a >i1|i2|i3", 0, 5)
	well(t, seq(pipe(call("cat"), call("read", "z"), call("cat")), call("cat")), "tube3 close3", 0, 5)
	well(t, pipe(call("cat"), call("read", "z"), call("cat")), "tube3 close3", 0, 4)
	well(t, pipe(call("cat"), seq(call("read", "z"), call("cat")), call("cat")), "tube3 >i2|i3 close3", 0, 5)
	// The last says where the pipe does.
	well(t, redir(2, "g", pipe(call("put", "a"), call("cat"))), "dup2 open2(g) tube2 g>a close2 close2", 0, 4)
	well(t, seq(show(sub(pipe(call("put", "a"), call("cat")))), call("put", "b")), "tube2 close2 >a >b", 0, 6)
	well(t, pipe(pipe(call("put", "a"), call("cat")), pipe(call("cat"), call("cat"))), "tube2 tube2 close2 tube2 >a close2 close2", 0, 7)
	// All parts share the variables.
	well(t, seq(pipe(let("v", lit("1")), let("w", get("v"))), show(get("v"), get("w"))), "tube2 close2 >1 1", 0, 4)
	// What goes to a file in between is not caught.
	well(t, pipe(redir(3, "g", call("put", "a")), call("cat")), "tube2 dup3 open3(g) g>a close3 close2", 0, 4)
	long := slices.Repeat([][]api.Node{call("cat")}, 50)
	well(t, pipe(long...), "tube50 >i1|i2|i3 close50", 0, 51)
}

func TestRedirs(t *testing.T) {
	a := call("put", "a")
	well(t, redir(1, "f", call("cat")), "dup1 open1(f) >one|two| close1", 0, 2)
	well(t, redir(1, "f", call("false")), "dup1 open1(f) close1", 1, 2)
	well(t, redir(1, "g", a), "dup1 open4(g) close1", 1, 1)
	well(t, seq(redir(1, "f", call("read", "z")), show(get("z")), call("cat")), "dup1 open1(f) close1 >one >i1|i2|i3", 0, 4)
	well(t, seq(redir(1, "f", call("cat")), redir(1, "f", call("read", "z")), show(get("z"))), "dup1 open1(f) >one|two| close1 dup1 open1(f) close1 >one", 0, 5)
	for mode, events := range map[int]string{2: "dup2 open2(f) f>a close2", 3: "dup3 open3(f) f>a close3"} {
		r := ends(t, redir(mode, "f", seq(a, call("false"))), events, 1, nil, 3)
		if want := map[int]string{2: "a.c:c f:a", 3: "a.c:c f:one|two|a"}[mode]; toldFiles(r.Files) != want {
			t.Error(toldFiles(r.Files))
		}
		n := strconv.Itoa(mode)
		r = ends(t, redir(mode, "g", nop()), "dup"+n+" open"+n+"(g) close"+n, 0, nil, 1)
		if toldFiles(r.Files) != "a.c:c f:one|two| g:" {
			t.Error(toldFiles(r.Files))
		}
		well(t, seq(redir(mode, "g", a), call("put", "b")), "dup"+n+" open"+n+"(g) g>a close"+n+" >b", 0, 3)
		// What is heard is not turned.
		well(t, seq(redir(mode, "g", call("read", "z")), call("cat")), "dup"+n+" open"+n+"(g) close"+n+" >i2|i3", 0, 3)
	}
	// The inner one holds.
	well(t, redir(2, "g", seq(redir(2, "h", a), call("put", "b"))), "dup2 open2(g) dup2 open2(h) h>a close2 g>b close2", 0, 4)
	well(t, redir(1, "a.c", seq(redir(1, "f", call("cat")), call("cat"))), "dup1 open1(a.c) dup1 open1(f) >one|two| close1 >c close1", 0, 4)
	// A file is heard as it was when it was opened.
	well(t, redir(1, "f", seq(redir(2, "f", a), call("cat"))), "dup1 open1(f) dup2 open2(f) f>a close2 >one|two| close1", 0, 4)
	well(t, redir(2, "f", redir(1, "f", call("cat"))), "dup2 open2(f) dup1 open1(f) close1 close2", 0, 3)
}

func TestRedirsName(t *testing.T) {
	for mode := 1; mode <= 3; mode++ {
		for _, none := range [][]api.Node{lit(""), list(), list(""), of(api.Join, list()), sub(nop())} {
			steps := 1
			if core.Has(none, api.Sub) {
				steps = 2
			}
			well(t, node(api.Redir, mode, "", none, call("put", "a")), "", 1, steps)
		}
	}
	well(t, node(api.Redir, 2, "", get("v"), call("put", "a")), "dup2 open2(p q) p q>a close2", 0, 2)
	well(t, node(api.Redir, 2, "", list("", ""), nop()), "dup2 open2( ) close2", 0, 1)
	// The word is known ahead of the marks, and says where the Redir stands.
	well(t, node(api.Redir, 2, "", sub(call("up")), nop()), "exec(up)3:i1|i2|i3 dup2 open2(:i1|i2|i3) close2", 0, 3)
}

func TestHere(t *testing.T) {
	well(t, here(lit("a\nb"), call("cat")), "dup1 >a|b close1", 0, 2)
	well(t, here(get("v"), call("up")), "dup1 exec(up)3:p q >:p q close1", 3, 2)
	well(t, here(list(), call("read", "z")), "dup1 close1", 1, 2)
	well(t, seq(here(lit("a\nb"), call("read", "z")), show(get("z")), call("cat")), "dup1 close1 >a >i1|i2|i3", 0, 4)
	well(t, here(lit("a"), seq(here(lit("b"), call("cat")), call("cat"))), "dup1 dup1 >b close1 >a close1", 0, 4)
	// The word hears what the Here does.
	well(t, seq(here(sub(call("cat")), call("cat")), call("cat")), "dup1 >i1|i2|i3 close1", 0, 5)
}

func TestLocal(t *testing.T) {
	well(t, seq(local("v", lit("1"), show(get("v"))), show(get("v"))), ">1 >p q", 0, 3)
	well(t, local("v", of(api.Cat, get("v"), lit("r")), show(get("v"))), ">p q r", 0, 2)
	well(t, local("v", lit("1"), call("false")), "", 1, 2)
	well(t, local("v", lit("1"), local("v", lit("2"), show(get("v")))), ">2", 0, 3)
	for _, inner := range [][]api.Node{nop(), let("u", lit("2")), local("u", lit("3"), nop()), each("u", lit("4"), nop()), call("read", "u")} {
		r := result(t, local("u", lit("1"), inner), some(), with("i1\ni2"))
		if got := toldVars(r.Vars); got != "v=(p,q)" {
			t.Errorf("%s: %s", spell.Print(inner), got)
		}
	}
	// A variable of no items is not one that is not there.
	r := ends(t, seq(let("e", list()), local("e", lit("1"), nop())), "", 0, nil, 2)
	if got := toldVars(r.Vars); got != "e=() v=(p,q)" {
		t.Error(got)
	}
	// As it was is as the word left it.
	well(t, seq(local("v", sub(let("v", lit("w"))), nop()), show(get("v"))), ">w", 0, 4)
	// A function that is called sees it.
	well(t, seq(fun("f", show(get("v"))), local("v", lit("1"), call("f")), call("f")), ">1 >p q", 0, 6)
}

func TestFrames(t *testing.T) {
	well(t, of(api.Frame, nop()), "", 0, 1)
	well(t, of(api.Frame, call("false")), "", 1, 2)
	well(t, seq(of(api.Frame, lit("a"), get("v"), show(get("*"))), show(get("*"))), ">a p q >A B", 0, 3)
	well(t, of(api.Frame, show(of(api.Count, get("*")))), ">0", 0, 2)
	well(t, of(api.Frame, lit("a"), of(api.Frame, get("*"), lit("b"), show(get("*")))), ">a b", 0, 3)
	// The words see the arguments of before.
	well(t, of(api.Frame, get("*"), sub(show(get("*"))), show(get("*"))), ">A B A B", 0, 4)
}

// echoing is options whose Parse takes the text of a program as package spell
// has it.
func echoing() Options {
	o := with("i1\ni2", "A", "B")
	o.Parse = spell.Parse
	return o
}

func TestEval(t *testing.T) {
	for source, want := range map[string]struct {
		events string
		status int
		steps  int
	}{
		`(nop)`:                           {"", 0, 1},
		`(call (lit "up"))`:               {"exec(up)3:i1|i2 >:i1|i2", 3, 2},
		`(call (lit "put") (var "*"))`:    {">A B", 0, 2},
		`(eval (lit "(nop"))`:             {"", api.BadText, 2},
		`(nop`:                            {"", api.BadText, 1},
		``:                                {"", api.BadText, 1},
		`(lit "a")`:                       {"", api.BadText, 1},
		`(seq (nop))`:                     {"", api.BadText, 1},
		`(not (call (lit "false")))`:      {"", 0, 2},
		`(eval (lit "(call (lit up)))"))`: {"", api.BadText, 2},
	} {
		r := result(t, eval(source), some(), echoing())
		if told(r.Trace) != want.events || r.Status != want.status || r.Steps != want.steps || r.Err != nil {
			t.Errorf("%s: %q %d %d %v", source, told(r.Trace), r.Status, r.Steps, r.Err)
		}
	}
	// What it does to names stays; what it hears and says is its caller's.
	r := result(t, seq(eval(`(seq (set "y" (lit "1")) (fun "g" (call (lit "put") (lit "g"))) (call (lit "read") (lit "z")))`), redir(2, "h", eval(`(call (lit "g"))`)), call("cat")), some(), echoing())
	if told(r.Trace) != "dup2 open2(h) h>g close2 >i2" || toldVars(r.Vars) != "v=(p,q) y=(1) z=(i1)" {
		t.Error(told(r.Trace), toldVars(r.Vars))
	}
}

// P9.2: Parse is asked at each Eval, with its text, Flat.
func TestParseIsAskedEachTime(t *testing.T) {
	var asked []string
	o := with("")
	o.Parse = func(s string) ([]api.Node, error) {
		asked = append(asked, s)
		return nop(), nil
	}
	result(t, each("i", get("v"), seq(eval("same"), of(api.Eval, of(api.Cat, get("i"), lit("b"))), of(api.Eval, list()))), some(), o)
	if want := ls("same", "p b", "", "same", "q b", ""); !slices.Equal(asked, want) {
		t.Errorf("%q, not %q", asked, want)
	}
}

// Whatever a Parse answers that is no program is BadText.
func TestParsesThatMakeNone(t *testing.T) {
	many := of(api.Seq, slices.Repeat([][]api.Node{nop()}, api.MaxNodes)...)
	deep := nop()
	for range api.MaxNest {
		deep = of(api.Not, deep)
	}
	for what, parse := range map[string]Parser{
		"no Parse":           nil,
		"an error":           func(string) ([]api.Node, error) { return nop(), api.ErrForm },
		"an error elsewhere": func(string) ([]api.Node, error) { return nop(), &api.At{Pos: 3, Err: api.ErrQuote} },
		"its own errors":     func(string) ([]api.Node, error) { return nop(), api.ErrFuel },
		"nothing":            func(string) ([]api.Node, error) { return nil, nil },
		"a word":             func(string) ([]api.Node, error) { return lit("a"), nil },
		"nodes of no kind":   func(string) ([]api.Node, error) { return make([]api.Node, 3), nil },
		"more than nodes":    func(string) ([]api.Node, error) { return append(nop(), nop()...), nil },
		"too many":           func(string) ([]api.Node, error) { return many, nil },
		"too deep":           func(string) ([]api.Node, error) { return deep, nil },
		"a panic":            func(string) ([]api.Node, error) { panic("no") },
	} {
		o := with("")
		o.Parse = parse
		r := result(t, eval("a"), some(), o)
		if r.Status != api.BadText || r.Err != nil || r.Steps != 1 || len(r.Trace) > 0 {
			t.Error(what, r)
		}
		// The run goes on.
		if r := result(t, seq(eval("a"), call("put", "b")), some(), o); told(r.Trace) != ">b" || r.Status != 0 {
			t.Error(what, r)
		}
	}
	o := with("")
	o.Parse = func(string) ([]api.Node, error) { return deep[1:], nil }
	if r := result(t, eval("a"), some(), o); r.Status != (api.MaxNest-1)%2 {
		t.Error("as deep as may be:", r.Status)
	}
}

// The chapter's own examples.
func TestTheChaptersExamples(t *testing.T) {
	well(t, call("echo", "a"), ">a|", 0, 1)
	well(t, seq(let("x", list("a", "b")), call("echo", "a")), ">a|", 0, 2)
	well(t, seq(let("x", list("a", "b")), of(api.Call, lit("echo"), of(api.Join, lit("-"), get("x")))), ">-a -b|", 0, 2)
	well(t, pipe(call("echo", "a"), call("cat")), "tube2 >a| close2", 0, 3)
	ends(t, of(api.While, call("true"), nop()), "", 0, api.ErrFuel, api.MaxSteps)
	ends(t, seq(fun("f", call("f")), call("f")), "", 0, api.ErrDeep, 27)
}

func TestDefaults(t *testing.T) {
	o := Defaults()
	if o.Steps != api.MaxSteps || o.Depth != api.MaxDepth || o.Parse != nil || len(o.Vars)+len(o.Args)+len(o.In) > 0 {
		t.Error(o)
	}
	if r := result(t, seq(call("cat"), show(get("*")), show(of(api.Count, get("*")))), api.World{}, o); told(r.Trace) != ">0" || len(r.Vars)+len(r.Files) > 0 {
		t.Error(r)
	}
}

// A result's variables and files are told by names, whatever came of them.
func TestResultsAreInOrder(t *testing.T) {
	w := api.World{Files: []api.File{{Name: "z"}, {Name: "a", Data: "1"}}}
	o := Defaults()
	o.Vars = []api.Value{{Name: "z", L: ls("1")}, {Name: "b"}, {Name: "z", L: ls("2")}}
	r := result(t, seq(redir(2, "m", call("put", "x")), let("m", lit("1")), let("B", lit("2"))), w, o)
	if toldFiles(r.Files) != "a:1 m:x z:" || toldVars(r.Vars) != "B=(2) b=() m=(1) z=(2)" {
		t.Error(toldFiles(r.Files), toldVars(r.Vars))
	}
}

// uncomparable is an error that panics where it is held against its like.
type uncomparable []int

func (uncomparable) Error() string { return "uncomparable" }

func TestSameResult(t *testing.T) {
	made := func() api.Result {
		return api.Result{
			Status: 1, Err: api.ErrBig, Steps: 2,
			Trace: []api.Event{{Kind: api.Exec, N: 1, A: "a", B: "b", L: ls("l", "m")}, {Kind: api.Tube, N: 2}},
			Vars:  []api.Value{{Name: "a", L: ls("1", "2")}, {Name: "b"}},
			Files: []api.File{{Name: "f", Data: "d"}},
		}
	}
	if !SameResult(made(), made()) || !SameResult(api.Result{}, api.Result{}) {
		t.Error("the same is not")
	}
	none := api.Result{Trace: []api.Event{}, Vars: []api.Value{}, Files: []api.File{}}
	if !SameResult(none, api.Result{}) || !SameResult(api.Result{}, none) {
		t.Error("nil and the empty list are not")
	}
	for what, change := range map[string]func(*api.Result){
		"status":        func(r *api.Result) { r.Status = 2 },
		"error":         func(r *api.Result) { r.Err = api.ErrFuel },
		"no error":      func(r *api.Result) { r.Err = nil },
		"steps":         func(r *api.Result) { r.Steps = 3 },
		"event kind":    func(r *api.Result) { r.Trace[1].Kind = api.Close },
		"event number":  func(r *api.Result) { r.Trace[1].N = 3 },
		"event's a":     func(r *api.Result) { r.Trace[0].A = "c" },
		"event's b":     func(r *api.Result) { r.Trace[0].B = "c" },
		"event's list":  func(r *api.Result) { r.Trace[0].L = ls("l") },
		"less events":   func(r *api.Result) { r.Trace = r.Trace[:1] },
		"variable":      func(r *api.Result) { r.Vars[1].Name = "c" },
		"value":         func(r *api.Result) { r.Vars[0].L[1] = "3" },
		"longer value":  func(r *api.Result) { r.Vars[1].L = ls("") },
		"less vars":     func(r *api.Result) { r.Vars = r.Vars[:1] },
		"vars in order": func(r *api.Result) { slices.Reverse(r.Vars) },
		"file":          func(r *api.Result) { r.Files[0].Name = "g" },
		"data":          func(r *api.Result) { r.Files[0].Data = "" },
		"more files":    func(r *api.Result) { r.Files = append(r.Files, api.File{}) },
	} {
		other := made()
		change(&other)
		if SameResult(made(), other) || SameResult(other, made()) {
			t.Error(what)
		}
		if !SameResult(other, other) {
			t.Error(what, "itself")
		}
	}
	odd := api.Result{Err: uncomparable{1}}
	if SameResult(odd, api.Result{Err: uncomparable{2}}) || SameResult(odd, api.Result{}) {
		t.Error("an error that cannot be compared")
	}
}

// SameResult tells what the trace's events tell, no less.
func TestSameResultOfRuns(t *testing.T) {
	a := result(t, pipe(call("put", "a"), call("cat")), some(), Defaults())
	b := result(t, seq(nop(), call("true"), call("true"), call("put", "a")), some(), Defaults())
	if SameResult(a, b) {
		t.Error("marks are told, too")
	}
	a.Trace, b.Trace = world.Erase(a.Trace), world.Erase(b.Trace)
	if !SameResult(a, b) {
		t.Error(a, b)
	}
}
