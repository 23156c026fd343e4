package inline

import (
	"slices"
	"strings"
	"testing"

	"patois/api"
	"patois/core"
	"patois/spell"
)

// of is a node of the kind, with no N and no S, over these kids.
func of(kind int, kids ...[]api.Node) []api.Node { return core.New(kind, 0, "", kids...) }

func get(name string) []api.Node { return core.New(api.Var, 0, name) }

func nop() []api.Node { return of(api.Nop) }

func fun(name string, command []api.Node) []api.Node { return core.New(api.Fun, 0, name, command) }

// call is a call of the name, with no other words than these.
func call(name string, words ...[]api.Node) []api.Node {
	return of(api.Call, append([][]api.Node{core.Lit(name)}, words...)...)
}

// nops is a command of so many nodes.
func nops(size int) []api.Node {
	return core.Seq(slices.Repeat([][]api.Node{nop()}, max(size-1, 1))...)
}

// below is the command below so many nodes of the kind.
func below(n, kind int, command []api.Node) []api.Node {
	for range n {
		command = of(kind, command)
	}
	return command
}

func program(t *testing.T, s string) []api.Node {
	t.Helper()
	l, err := spell.Parse(s)
	if err != nil {
		t.Fatalf("%s: %v", s, err)
	}
	return l
}

// short lets $f stand for a call of f, @f for the Fun f, and %f for its command;
// there are g and h of these too, and a and b that are no functions.
var short = strings.NewReplacer(
	"$f", `(call (lit "f"))`, "$g", `(call (lit "g"))`, "$h", `(call (lit "h"))`, "$a", `(call (lit "a"))`, "$b", `(call (lit "b"))`,
	"@f", `(fun "f" (call (lit "echo") (var "*")))`, "@g", `(fun "g" (call (lit "put") (var "*") (lit "!")))`, "@h", `(fun "h" (nop))`,
	"%f", `(call (lit "echo") (var "*"))`, "%g", `(call (lit "put") (var "*") (lit "!"))`, "%h", `(nop)`,
	"(nop)", "(nop)", "nop", "(nop)",
)

// becomes asks what comes of programs: of each one ahead of its answer in the
// pairs, or, where that is "", the program itself.
func becomes(t *testing.T, pairs ...string) {
	t.Helper()
	for i := 0; i < len(pairs); i += 2 {
		from, want := short.Replace(pairs[i]), short.Replace(pairs[i+1])
		if want == "" {
			want = from
		}
		l := program(t, from)
		if got := spell.Print(Pass(l)); got != want {
			t.Errorf("Pass(%s): %s, not %s", from, got, want)
		}
		if !core.Same(l, program(t, from)) {
			t.Errorf("Pass(%s) has changed it", from)
		}
	}
}

// knows asks for the known names of programs: of each one ahead of them in the
// pairs.
func knows(t *testing.T, pairs ...string) {
	t.Helper()
	for i := 0; i < len(pairs); i += 2 {
		from := short.Replace(pairs[i])
		l := program(t, from)
		if got := Known(l); strings.Join(got, " ") != pairs[i+1] || len(got) != len(strings.Fields(pairs[i+1])) {
			t.Errorf("Known(%s): %q, not %s", from, got, pairs[i+1])
		}
		if !core.Same(l, program(t, from)) {
			t.Errorf("Known(%s) has changed it", from)
		}
	}
}

// The chapter's examples.
func TestExamples(t *testing.T) {
	becomes(t,
		`(seq @f (call (lit "f") (lit "a")))`, `(seq @f (frame (lit "a") %f))`,
		`(seq @f (call (lit "f") (lit "a")) (eval (lit "")))`, ``,
		`(seq @f (call (lit "f") (lit "a")) (fun "f" nop))`, ``,
	)
}

// P19.1

func TestKnownFuns(t *testing.T) {
	knows(t,
		`(seq @f nop)`, `f`,
		`(seq @f @g $a)`, `f g`,
		`(seq @f @g)`, `f g`,
		// Rising, whatever the order.
		`(seq @g @f @h nop)`, `f g h`,
		`(seq @h @g @f)`, `f g h`,
		`(seq (fun "b" nop) (fun "a_1" nop) (fun "B" nop) (fun "a" nop) (fun "_" nop) (fun "ab" nop) nop)`, `B _ a a_1 ab b`,
		// Calls or none, however long.
		`(seq (fun "f" $f) $f)`, `f`,
		`(seq (fun "f" (seq `+strings.Repeat("nop ", 39)+`nop)) $f)`, `f`,
		`(seq (fun "echo" nop) (call (lit "echo")))`, `echo`,
	)
}

func TestKnownOfSeqsAlone(t *testing.T) {
	knows(t,
		`@f`, ``,
		`nop`, ``,
		`$f`, ``,
		`(pipe @f $f)`, ``,
		`(and @f $f)`, ``,
		`(if @f @g @h)`, ``,
		`(while @f @g)`, ``,
		`(not (seq @f $f))`, ``,
		`(fun "g" (seq @f $f))`, ``,
		`(frame (seq @f $f))`, ``,
	)
}

func TestKnownUpToTheFirstOther(t *testing.T) {
	knows(t,
		`(seq nop @f)`, ``,
		`(seq $a @f @g)`, ``,
		`(seq @f nop @g)`, `f`,
		`(seq @f @g (set "x" (lit "y")) @h $h)`, `f g`,
		`(seq @g $a @f $b @h)`, `g`,
		// Only children.
		`(seq (seq @f @g) @h)`, ``,
		`(seq @h (seq @f @g))`, `h`,
		`(seq (not @f) $f)`, ``,
		`(seq (redir 2 (lit "x") @f) $f)`, ``,
		`(seq (local "x" (lit "y") @f) $f)`, ``,
		`(seq (fun "f" @g) $f)`, `f`,
		`(seq (fun "f" (fun "g" @h)) nop)`, `f`,
	)
}

func TestKnownOfTwoFuns(t *testing.T) {
	knows(t,
		`(seq @f @f nop)`, ``,
		`(seq @f @g @f nop)`, `g`,
		`(seq @f @f @f @g @h @h)`, `g`,
		`(seq @f (fun "f" nop) @g)`, `g`,
		// Behind them, in one another's command, in its own, in a word's.
		`(seq @f @g nop @f)`, `g`,
		`(seq @f @g $a (fun "g" $f))`, `f`,
		`(seq @g (fun "f" @g) nop)`, `f`,
		`(seq (fun "f" @g) @g nop)`, `f`,
		`(seq (fun "f" @f) @g nop)`, `g`,
		`(seq (fun "f" @g) (fun "g" @f) @h)`, `h`,
		`(seq @f @g (set "x" (flat (sub @f))))`, `g`,
		`(seq @f @g (call (lit "f") (cat (join (sub (not @g))))))`, `f`,
		`(seq @f @g (if $a (and nop (while nop (pipe nop @f))) nop))`, `g`,
		`(seq @f @g (case (lit "x") (sub @f) nop (lit "y") @g))`, ``,
		`(seq @f @g (frame (lit "x") @f))`, `g`,
		// Others of that name are no Funs.
		`(seq @f (set "f" (var "f")) (for "f" (cat) nop) (local "f" (lit "f") $f) (call (lit "fun") (lit "f")))`, `f`,
		`(seq @f (fun "ff" nop) (fun "F" nop) (fun "f1" nop) nop)`, `F f f1 ff`,
	)
}

func TestKnownWithEvals(t *testing.T) {
	knows(t,
		`(seq @f (eval (lit "")))`, ``,
		`(seq (eval (lit "")) @f)`, ``,
		`(seq @f @g nop (not (eval (var "x"))))`, ``,
		`(seq @f (fun "g" (eval (lit "a"))) nop)`, ``,
		`(seq @f (call (lit "a") (cat (sub (eval (lit "a"))))))`, ``,
		`(seq @f (set "x" (sub (redir 1 (lit "x") (eval (lit "a"))))))`, ``,
		`(seq @f (frame (pipe nop (eval (lit "a")))))`, ``,
		// None of these is an Eval.
		`(seq @f (call (lit "eval") (lit "f")))`, `f`,
		`(seq @f (fun "eval" nop) (call (var "x")))`, `eval f`,
	)
}

// P19.2: which are turned.

func TestCallsOfKnownNames(t *testing.T) {
	becomes(t,
		`(seq @f $f)`, `(seq @f (frame %f))`,
		`(seq @f (call (lit "f") (lit "x") (var "y") (cat) (lit 1 "*")))`, `(seq @f (frame (lit "x") (var "y") (cat) (lit 1 "*") %f))`,
		`(seq @f (call (lit 1 "f") (var "*")))`, `(seq @f (frame (var "*") %f))`,
		`(seq @f (call (lit "f") (lit "f")))`, `(seq @f (frame (lit "f") %f))`,
		`(seq @f @g @h $h $g $f $a)`, `(seq @f @g @h (frame %h) (frame %g) (frame %f) $a)`,
		`(seq @f $f $f $f)`, `(seq @f (frame %f) (frame %f) (frame %f))`,
		`(seq (fun "echo" nop) (call (lit "echo") (lit "a")))`, `(seq (fun "echo" nop) (frame (lit "a") nop))`,
		// What is no Lit of it.
		`(seq @f $a)`, ``,
		`(seq @f (call (lit "ff")) (call (lit "")) (call (lit "F")) (call (lit "f ")) (call (lit 1 "\5cf")) (call (lit 1 "*")))`, ``,
		`(seq @f (call (var "f")) (call (cat (lit "f"))) (call (join (lit "f"))) (call (flat (lit "f"))) (call (plain (lit 1 "f"))))`, ``,
		`(seq @f (call (cat) (lit "f")) (call (lit "a") (lit "f")))`, ``,
		`(seq @f (set "f" (lit "f")) (for "f" (lit "f") nop) (local "f" (lit "f") nop) (here (lit "f") nop) (redir 1 (lit "f") nop))`, ``,
		`(seq @f (case (lit "f") (lit "f") nop) (frame (lit "f") nop))`, ``,
		// What is not known.
		`(seq @f nop @g $g)`, ``,
		`(seq $f @f $f)`, ``,
		`(seq @f @f $f)`, ``,
		`(seq @f @g @f $f $g)`, `(seq @f @g @f $f (frame %g))`,
		`(seq @f (fun "g" @f) $g $f)`, `(seq @f (fun "g" @f) (frame @f) $f)`,
		`(seq @f @g $g (eval (lit "a")))`, ``,
		`(seq @f (fun "g" (eval (lit "a"))) $f $g)`, ``,
		`(pipe @f $f)`, ``,
		`(not (seq @f $f))`, ``,
		`(seq (seq @f $f) $f)`, ``,
		`$f`, ``,
		`@f`, ``,
		`nop`, ``,
	)
}

// Only behind the Funs: what a function's command calls is left to be called.
func TestCallsBehindTheFuns(t *testing.T) {
	becomes(t,
		`(seq @f (fun "g" $f))`, ``,
		`(seq @f (fun "g" $f) nop)`, ``,
		`(seq (fun "f" $g) @g nop)`, ``,
		`(seq @f (fun "g" $f) $g)`, `(seq @f (fun "g" $f) (frame $f))`,
		`(seq (fun "f" (call (lit "f") (lit "x"))) $f)`, `(seq (fun "f" (call (lit "f") (lit "x"))) (frame (call (lit "f") (lit "x"))))`,
		`(seq (fun "f" $g) (fun "g" $f) $f $g)`, `(seq (fun "f" $g) (fun "g" $f) (frame $g) (frame $f))`,
		// Behind all of them, those that are not known too.
		`(seq @f (fun "g" $f) (fun "g" $f) $g $f)`, `(seq @f (fun "g" $f) (fun "g" $f) $g (frame %f))`,
		`(seq (fun "g" $f) (fun "g" nop) @f nop)`, ``,
		// One further behind is as all else there.
		`(seq @f nop (fun "g" $f) $g $f)`, `(seq @f nop (fun "g" (frame %f)) $g (frame %f))`,
		`(seq @f (not (fun "g" $f)) $g)`, `(seq @f (not (fun "g" (frame %f))) $g)`,
	)
}

// What is put in is not looked at: only another pass does that.
func TestOnceMore(t *testing.T) {
	l := program(t, short.Replace(`(seq @h (fun "f" (seq $h $f)) $f)`))
	for _, want := range []string{
		`(seq @h (fun "f" (seq $h $f)) (frame (seq $h $f)))`,
		`(seq @h (fun "f" (seq $h $f)) (frame (seq (frame %h) (frame (seq $h $f)))))`,
		`(seq @h (fun "f" (seq $h $f)) (frame (seq (frame %h) (frame (seq (frame %h) (frame (seq $h $f)))))))`,
	} {
		l = Pass(l)
		if got := spell.Print(l); got != short.Replace(want) {
			t.Errorf("%s, not %s", got, want)
		}
	}
}

// Wherever they stand.
func TestCallsFurtherIn(t *testing.T) {
	for _, around := range []string{
		`#`, `(seq # #)`, `(if # # #)`, `(and # #)`, `(or # #)`, `(not #)`, `(while # #)`, `(pipe # nop #)`, `(fun "g" #)`,
		`(for "x" (lit "x") #)`, `(for "x" (sub #) nop)`, `(local "x" (lit "x") #)`, `(local "x" (sub #) #)`, `(set "x" (sub #))`,
		`(case (sub #) (sub #) # (cat (sub #) (sub #)) #)`, `(redir 1 (lit "x") #)`, `(redir 3 (sub #) #)`, `(here (lit "x") #)`, `(here (sub #) #)`,
		`(frame #)`, `(frame (sub #) (lit "x") (sub #) #)`, `(call (lit "a") (sub #))`, `(call (sub #) (lit "a"))`, `(call (var "x") (cat (sub #) (lit "x") (sub #)))`,
		`(set "x" (join (lit "x") (split (glob (plain (esc (flat (count (pick 7 (sub #))))))))))`,
		`(not (not (seq nop (pipe nop (if nop (while nop (not #)) nop)))))`, `(fun "g" (seq nop (fun "h" #)))`, `(seq @g #)`,
	} {
		becomes(t,
			`(seq @f $a `+strings.ReplaceAll(around, "#", "$f")+`)`, `(seq @f $a `+strings.ReplaceAll(around, "#", "(frame %f)")+`)`,
			`(seq @f nop `+strings.ReplaceAll(around, "#", `(call (lit "f") (lit "x"))`)+` $f)`, `(seq @f nop `+strings.ReplaceAll(around, "#", `(frame (lit "x") %f)`)+` (frame %f))`,
			`(seq @f `+strings.ReplaceAll(around, "#", "$a")+`)`, ``,
		)
	}
}

func TestCallsInWordsOfCalls(t *testing.T) {
	becomes(t,
		`(seq @f (call (lit "f") (sub $f)))`, `(seq @f (frame (sub (frame %f)) %f))`,
		`(seq @f @g (call (lit "g") (sub (call (lit "f") (sub $g) (sub $a) (sub $f))) (lit "x")))`, `(seq @f @g (frame (sub (frame (sub (frame %g)) (sub $a) (sub (frame %f)) %f)) (lit "x") %g))`,
		`(seq @f (call (lit "a") (sub $f)))`, `(seq @f (call (lit "a") (sub (frame %f))))`,
		`(seq @f (call (var "f") (sub $f)))`, `(seq @f (call (var "f") (sub (frame %f))))`,
		`(seq @f (call (sub $f) (lit "f")))`, `(seq @f (call (sub (frame %f)) (lit "f")))`,
	)
}

// P19.2: bounds.

func TestMost(t *testing.T) {
	if Most() != 24 {
		t.Error(Most())
	}
	deep := of(api.Call, below(22, api.Flat, core.Lit("x")))
	if len(deep) != 24 {
		t.Fatal(len(deep))
	}
	for i, command := range [][]api.Node{nop(), nops(3), nops(23), nops(24), nops(25), nops(26), nops(100), deep, below(1, api.Not, deep)} {
		l := core.Seq(fun("f", command), call("f", core.Lit("x")))
		want := l
		if len(command) <= 24 {
			want = core.Seq(fun("f", command), of(api.Frame, core.Lit("x"), command))
		}
		if got := Pass(l); !core.Same(got, want) || strings.Join(Known(l), " ") != "f" {
			t.Errorf("%d: %s, not %s", i, spell.Print(got), spell.Print(want))
		}
	}
	// Of the command alone: the Fun itself, and the call, are none of it.
	long := slices.Repeat([][]api.Node{core.Lit("x")}, 50)
	if got := Pass(core.Seq(fun("f", nops(24)), call("f", long...))); !core.Same(got, core.Seq(fun("f", nops(24)), of(api.Frame, append(long, nops(24))...))) {
		t.Error(spell.Print(got))
	}
	// One that is too long is no hindrance to another.
	l := core.Seq(fun("f", nops(25)), fun("g", nops(24)), call("f", of(api.Sub, call("g"))), call("g"))
	want := core.Seq(fun("f", nops(25)), fun("g", nops(24)), call("f", of(api.Sub, of(api.Frame, nops(24)))), of(api.Frame, nops(24)))
	if got := Pass(l); !core.Same(got, want) {
		t.Error(spell.Print(got))
	}
}

// filled is a program of the Fun f, whose command has 10 nodes, the Fun g, whose
// command has 3, the Fun h, whose command has one, the commands, and as many
// nodes behind them as make it so large.
func filled(size int, commands ...[]api.Node) []api.Node {
	all := append([][]api.Node{fun("f", nops(10)), fun("g", nops(3)), fun("h", nop())}, commands...)
	return core.Seq(append(all, nops(size-len(core.Seq(all...))))...)
}

// frame is what becomes of such a call, if it is turned.
func frame(name string, words ...[]api.Node) []api.Node {
	command := map[string][]api.Node{"f": nops(10), "g": nops(3), "h": nop()}[name]
	return of(api.Frame, append(words, command)...)
}

func TestNodesInAll(t *testing.T) {
	f, g, h := call("f"), call("g"), call("h")
	lists := func(l ...[]api.Node) [][]api.Node { return l }
	in := func(name string, command []api.Node) []api.Node { return call(name, of(api.Sub, command)) }
	for i, c := range []struct {
		size       int
		from, want [][]api.Node
	}{
		{100, lists(f, g, h), lists(frame("f"), frame("g"), frame("h"))},
		// A frame of f has 9 nodes more, of g 2, of h none.
		{991, lists(f), lists(frame("f"))},
		{992, lists(f), lists(f)},
		{998, lists(g), lists(frame("g"))},
		{999, lists(g), lists(g)},
		{1000, lists(h), lists(frame("h"))},
		{1001, lists(h), lists(h)},
		{api.MaxNodes, lists(h, g, f), lists(h, g, f)},
		// From the left; one that stays leaves room for another.
		{982, lists(f, f), lists(frame("f"), frame("f"))},
		{983, lists(f, f), lists(frame("f"), f)},
		{991, lists(f, f, f), lists(frame("f"), f, f)},
		{991, lists(g, f), lists(frame("g"), f)},
		{990, lists(f, g), lists(frame("f"), g)},
		{992, lists(f, g, f, g, h, g), lists(f, frame("g"), f, frame("g"), frame("h"), frame("g"))},
		{991, lists(g, f, g, g, g, g), lists(frame("g"), f, frame("g"), frame("g"), frame("g"), g)},
		{998, lists(f, of(api.Not, of(api.Pipe, f, g)), g), lists(f, of(api.Not, of(api.Pipe, f, frame("g"))), g)},
		{1000, lists(f, g, h, h), lists(f, g, frame("h"), frame("h"))},
		// What is in the words of a call ahead of the call itself.
		{991, lists(in("f", f)), lists(in("f", frame("f")))},
		{992, lists(in("f", g)), lists(in("f", frame("g")))},
		{991, lists(in("g", f)), lists(in("g", frame("f")))},
		{992, lists(in("g", f)), lists(frame("g", of(api.Sub, f)))},
		{991, lists(in("f", in("f", f))), lists(in("f", in("f", frame("f"))))},
		{982, lists(in("f", in("f", f))), lists(in("f", frame("f", of(api.Sub, frame("f")))))},
		{973, lists(in("f", in("f", f))), lists(frame("f", of(api.Sub, frame("f", of(api.Sub, frame("f"))))))},
		{991, lists(call("f", of(api.Sub, g), of(api.Sub, f))), lists(call("f", of(api.Sub, frame("g")), of(api.Sub, f)))},
		{982, lists(in("a", f), in("f", f)), lists(in("a", frame("f")), in("f", frame("f")))},
		{982, lists(in("f", f), f), lists(frame("f", of(api.Sub, frame("f"))), f)},
		{991, lists(in("f", f), f), lists(in("f", frame("f")), f)},
	} {
		l := filled(c.size, c.from...)
		if len(l) != c.size || core.Check(l) != nil {
			t.Fatal(i, len(l), core.Check(l))
		}
		commands := core.Kids(l)
		want := core.Seq(slices.Concat(commands[:3], c.want, commands[3+len(c.want):])...)
		if got := Pass(l); !core.Same(got, want) || core.Check(got) != nil {
			t.Errorf("%d: %s", i, spell.Print(core.Seq(core.Kids(got)[3:3+len(c.want)]...)))
		}
	}
}

func TestNesting(t *testing.T) {
	f := call("f", core.Lit("x"))
	for depth := 1; depth < 9; depth++ {
		command := below(depth-1, api.Not, nop())
		for above := range api.MaxNest - 3 {
			// The call's own depth is 2 and what is above it.
			l := core.Seq(fun("f", command), below(above, api.Not, f))
			want := l
			if 2+above+depth <= api.MaxNest {
				want = core.Seq(fun("f", command), below(above, api.Not, of(api.Frame, core.Lit("x"), command)))
			}
			if got := Pass(l); !core.Same(got, want) || core.Check(got) != nil || core.Depth(got) > api.MaxNest {
				t.Errorf("%d, %d: %s", depth, above, spell.Print(got))
			}
		}
	}
	// The words' depth is none of the command's, nor a command's word's one of less.
	words := below(20, api.Flat, core.Lit("x"))
	becomes(t,
		`(seq (fun "f" (not nop)) `+spell.Print(below(api.MaxNest-4, api.Not, call("f", words[20:])))+`)`, `(seq (fun "f" (not nop)) `+spell.Print(below(api.MaxNest-4, api.Not, of(api.Frame, words[20:], of(api.Not, nop()))))+`)`,
		`(seq (fun "f" nop) `+spell.Print(below(7, api.Not, call("f", words)))+`)`, `(seq (fun "f" nop) `+spell.Print(below(7, api.Not, of(api.Frame, words, nop())))+`)`,
		`(seq (fun "f" `+spell.Print(call("a", words))+`) `+spell.Print(below(6, api.Not, f))+`)`, `(seq (fun "f" `+spell.Print(call("a", words))+`) `+spell.Print(below(6, api.Not, of(api.Frame, core.Lit("x"), call("a", words))))+`)`,
		`(seq (fun "f" `+spell.Print(call("a", words))+`) `+spell.Print(below(7, api.Not, f))+`)`, ``,
	)
	// One in a word is as deep as it stands there, and the call above it is not.
	deep := call("f", below(24, api.Flat, of(api.Sub, f)))
	becomes(t,
		`(seq (fun "f" (not nop)) `+spell.Print(deep)+`)`, `(seq (fun "f" (not nop)) `+spell.Print(of(api.Frame, below(24, api.Flat, of(api.Sub, of(api.Frame, core.Lit("x"), of(api.Not, nop())))), of(api.Not, nop())))+`)`,
		`(seq (fun "f" (not (not nop))) `+spell.Print(deep)+`)`, `(seq (fun "f" (not (not nop))) `+spell.Print(of(api.Frame, below(24, api.Flat, of(api.Sub, f)), below(2, api.Not, nop())))+`)`,
	)
	// One that is too deep takes no room.
	room := core.Seq(fun("f", nops(10)), below(api.MaxNest-3, api.Not, call("f")), call("f"))
	filling := slices.Repeat([][]api.Node{core.Lit("x")}, 990-len(room))
	l := core.Seq(append(core.Kids(room), call("a", filling...))...)
	if got := core.Kids(Pass(l)); len(l) != 992 || got[2][0].Kind != api.Call {
		t.Error(len(l), got[2])
	}
	l = core.Seq(append(core.Kids(room), call("a", filling[1:]...))...)
	if got := core.Kids(Pass(l)); len(l) != 991 || core.Has(got[1], api.Frame) || got[2][0].Kind != api.Frame {
		t.Error(len(l), got[2])
	}
}

// P19.1, P19.2: what may not be has no known names, and is copied.
func TestWhatMayNotBe(t *testing.T) {
	f, odd := fun("f", nop()), api.Node{Kind: -7, N: 1 << 40, K: -3, Size: 1 << 40, S: "\xff"}
	good := core.Seq(f, call("f"))
	with := func(i int, change func(*api.Node)) []api.Node {
		l := slices.Clone(good)
		change(&l[i])
		return l
	}
	for i, l := range [][]api.Node{
		nil, {}, {odd}, {odd, odd}, core.Lit("f"), of(api.Sub, good), of(api.Cat, of(api.Sub, good)),
		of(api.Seq), of(api.Seq, f), of(api.Seq, f, core.Lit("f")), of(api.Seq, core.Lit("f"), f), of(api.Seq, f, of(api.Call)), of(api.Seq, f, of(api.Call, nop())),
		of(api.Seq, of(api.Fun, nop()), call("f")), of(api.Seq, fun("1", nop()), call("1")), of(api.Seq, fun("*", nop()), call("*")),
		of(api.Seq, fun("f", core.Lit("x")), call("f")), of(api.Seq, core.New(api.Fun, 0, "f"), call("f")), of(api.Seq, core.New(api.Fun, 0, "f", nop(), nop()), call("f")),
		of(api.Seq, core.New(api.Fun, 1, "f", nop()), call("f")), core.New(api.Seq, 1, "", f, call("f")), core.New(api.Seq, 0, "s", f, call("f")),
		of(api.Seq, f, of(api.Call, core.New(api.Lit, 2, "f"))), of(api.Seq, f, call("f"), core.New(api.Nop, 0, "s")), of(api.Seq, f, call("f"), of(api.Not)),
		with(0, func(n *api.Node) { n.Size-- }), with(0, func(n *api.Node) { n.Size++ }), with(0, func(n *api.Node) { n.K++ }), with(0, func(n *api.Node) { n.K = 1 << 62 }),
		with(1, func(n *api.Node) { n.Size = 0 }), with(1, func(n *api.Node) { n.Size = 1 << 62 }), with(1, func(n *api.Node) { n.K = 0 }), with(2, func(n *api.Node) { n.Size = -1 }),
		with(3, func(n *api.Node) { n.K = 2 }), with(3, func(n *api.Node) { n.K = 0 }), append(slices.Clone(good), odd), good[:4], good[:1],
		core.Seq(f, call("f"), nops(api.MaxNodes)), core.Seq(f, call("f"), below(api.MaxNest-1, api.Not, nop())),
		make([]api.Node, 2*api.MaxNodes),
	} {
		if got := Pass(l); !core.Same(got, l) {
			t.Errorf("Pass of %d: %v", i, got)
		}
		if got := Known(l); len(got) > 0 {
			t.Errorf("Known of %d: %v", i, got)
		}
	}
	if got := Pass(good); !core.Has(got, api.Frame) {
		t.Error(got)
	}
}

func TestAtTheBounds(t *testing.T) {
	var funs, all [][]api.Node
	var names []string
	for i := range (api.MaxNodes - 2) / 2 {
		name := "n" + strings.Repeat("x", i%10) + string(rune('a'+i/10%26)) + string(rune('a'+i/260))
		funs, names = append(funs, fun(name, nop())), append(names, name)
	}
	all = append(funs, nop())
	slices.Sort(names)
	if l := core.Seq(all...); core.Check(l) != nil || !slices.Equal(Known(l), names) || !core.Same(Pass(l), l) {
		t.Error(core.Check(l), len(Known(l)), len(names))
	}
	// As many functions and calls as there may be with frames of them.
	from, to := slices.Clone(funs[:200]), slices.Clone(funs[:200])
	for i := range 199 {
		from, to = append(from, call(funs[i][0].S, core.Lit("x"))), append(to, of(api.Frame, core.Lit("x"), nop()))
	}
	if l := core.Seq(from...); len(l) != 998 || !core.Same(Pass(l), core.Seq(to...)) {
		t.Error(len(l))
	}
}

// P19.3

// spoil writes over a list and the spare room behind it.
func spoil(l []api.Node) {
	l = l[:cap(l)]
	for i := range l {
		l[i] = api.Node{Kind: -9, N: -9, K: -9, Size: -9, S: "spoilt"}
	}
}

// hiding is the list with room behind it in which other nodes lie.
func hiding(l []api.Node) []api.Node {
	return append(slices.Clone(l), nop()[0], core.Lit("hidden")[0])[:len(l)]
}

func TestListsAreNewMemory(t *testing.T) {
	for _, s := range []string{
		`nop`, `$f`, `@f`, `(seq @f @g)`, `(seq @f $f)`, `(seq @f $f $f)`, `(seq @f (call (lit "f") (sub $f) (var "*")) $a)`, `(seq @f @f $f)`,
		`(seq @f $f (eval (lit "x")))`, `(seq @h $h)`, `(seq nop @f $f)`, `(seq @h @g @f (pipe (call (lit "f") (lit "x")) $g $h) (fun "i" $f))`,
	} {
		l := program(t, short.Replace(s))
		asksNewMemory(t, s, l)
		// A copy is new memory too.
		asksNewMemory(t, s, of(api.Seq, l))
	}
}

func asksNewMemory(t *testing.T, what string, l []api.Node) {
	t.Helper()
	handed := hiding(l)
	whole := slices.Clone(handed[:len(handed)+2])
	first, next := Pass(handed), Pass(handed)
	want := slices.Clone(first)
	if !core.Same(first, next) || !slices.Equal(handed[:len(handed)+2], whole) {
		t.Error(what, "has changed")
	}
	names, again := Known(handed), Known(handed)
	known := slices.Clone(names)
	names = names[:cap(names)]
	for i := range names {
		names[i] = "spoilt"
	}
	if !slices.Equal(again, known) || !slices.Equal(Known(handed), known) {
		t.Error(what, "has names that are shared")
	}
	spoil(first)
	if !core.Same(next, want) || !slices.Equal(handed[:len(handed)+2], whole) || !core.Same(Pass(handed), want) {
		t.Error(what, "is shared")
	}
	spoil(handed)
	if !core.Same(next, want) {
		t.Error(what, "is what was handed in")
	}
}
