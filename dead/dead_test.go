package dead

import (
	"slices"
	"strings"
	"testing"

	"patois/api"
	"patois/core"
	"patois/spell"
)

// of is a node of the kind, with no N and no S, over these kids.
func of(kind int, kids ...[]api.Node) []api.Node { return core.New(kind, 0, "", kids...) }

func get(name string) []api.Node { return core.New(api.Var, 0, name) }

func nop() []api.Node { return of(api.Nop) }

// say is a command that shows in the trace.
func say(s string) []api.Node { return of(api.Call, core.Lit("put"), core.Lit(s)) }

func program(t *testing.T, s string) []api.Node {
	t.Helper()
	l, err := spell.Parse(s)
	if err != nil {
		t.Fatalf("%s: %v", s, err)
	}
	return l
}

// short lets a, b and c stand for calls, and nop for itself, so that programs
// are told in few words.
var short = strings.NewReplacer(" a", ` (call (lit "a"))`, " b", ` (call (lit "b"))`, " c", ` (call (lit "c"))`, " nop", " (nop)")

func long(s string) string { return strings.TrimPrefix(short.Replace(" "+s), " ") }

// becomes asks what comes of programs: of each one ahead of its answer in the
// pairs, or, where that is "", the program itself. It asks for it by itself and
// further in, and once more of what came.
func becomes(t *testing.T, pairs ...string) {
	t.Helper()
	for i := 0; i < len(pairs); i += 2 {
		from, want := long(pairs[i]), long(pairs[i+1])
		if want == "" {
			want = from
		}
		// None of these does anything of its own to what is in it.
		for _, around := range []string{"@", `(redir 2 (lit "f") @)`, `(fun "f" @)`, `(call (lit "x") (flat (sub @)))`, `(pipe @ (call (lit "x")))`, `(frame (lit "x") @)`} {
			whole := strings.Replace(around, "@", from, 1)
			l := program(t, whole)
			got := Pass(l)
			if s := spell.Print(got); s != strings.Replace(around, "@", want, 1) {
				t.Errorf("Pass(%s): %s, not %s in %s", whole, s, want, around)
			}
			if !core.Same(Pass(got), got) {
				t.Errorf("Pass of Pass(%s): %s", whole, spell.Print(Pass(got)))
			}
			if !core.Same(l, program(t, whole)) {
				t.Errorf("Pass(%s) has changed it", whole)
			}
		}
	}
}

// The chapter's examples.
func TestExamples(t *testing.T) {
	becomes(t,
		`(seq nop (seq a b))`, `(seq a b)`,
		`(if nop a b)`, `a`,
		`(if (not a) b c)`, `(if a c b)`,
		`(here (lit "x") nop)`, `nop`,
		`(seq a nop)`, ``,
	)
}

// P18.1, the first rule.

func TestSeqsInSeqs(t *testing.T) {
	becomes(t,
		`(seq a b)`, ``,
		`(seq (seq a b) c)`, `(seq a b c)`,
		`(seq a (seq b c))`, `(seq a b c)`,
		`(seq (seq a b) (seq c a))`, `(seq a b c a)`,
		`(seq (seq (seq (seq a b) c) a) b)`, `(seq a b c a b)`,
		`(seq a (seq b (seq c (seq a b))))`, `(seq a b c a b)`,
		`(seq a (seq b c) a (seq b c) a)`, `(seq a b c a b c a)`,
		// Only children: what stands between keeps its Seq.
		`(seq a (not (seq b c)))`, ``,
		`(seq a (and (seq b c) (seq a b)))`, ``,
		`(not (seq a b))`, ``,
		`(while (seq a b) (seq b c))`, ``,
		`(pipe (seq a b) (seq b c))`, ``,
		`(for "i" (cat) (seq a b))`, ``,
		// One that is a Seq only when it is passed.
		`(seq (if nop (seq a b) c) a)`, `(seq a b a)`,
		`(seq c (and nop (seq a b)))`, `(seq c a b)`,
	)
}

func TestNopsInSeqs(t *testing.T) {
	becomes(t,
		`(seq nop a b)`, `(seq a b)`,
		`(seq a nop b)`, `(seq a b)`,
		`(seq nop a nop nop b nop c)`, `(seq a b c)`,
		// The last child stays.
		`(seq a nop)`, ``,
		`(seq a b nop)`, ``,
		`(seq a nop nop nop)`, `(seq a nop)`,
		`(seq nop a nop nop)`, `(seq a nop)`,
		// Of one child that.
		`(seq nop a)`, `a`,
		`(seq nop nop)`, `nop`,
		`(seq nop nop nop nop)`, `nop`,
		`(seq nop nop nop a)`, `a`,
		`(seq nop (not a))`, `(not a)`,
		`(seq nop (redir 2 (lit "f") nop))`, `(redir 2 (lit "f") nop)`,
		// One that is a Nop only when it is passed.
		`(seq (or nop a) b)`, `b`,
		`(seq (local "x" (lit "a") nop) (here (var "x") nop) (case (lit "b")) b)`, `b`,
		`(seq a (or nop b))`, `(seq a nop)`,
		`(seq (or nop a) (or nop b))`, `nop`,
	)
}

// The last child of a Seq in a Seq is not the last there.
func TestSeqsAndNopsAtOnce(t *testing.T) {
	becomes(t,
		`(seq (seq a nop) b)`, `(seq a b)`,
		`(seq (seq a nop) nop)`, `(seq a nop)`,
		`(seq a (seq b nop))`, `(seq a b nop)`,
		`(seq nop (seq a nop))`, `(seq a nop)`,
		`(seq nop (seq nop a))`, `a`,
		`(seq (seq nop nop) (seq nop nop))`, `nop`,
		`(seq (seq nop nop) a)`, `a`,
		`(seq a (seq nop nop))`, `(seq a nop)`,
		`(seq (seq a nop) (seq b nop) (seq c nop))`, `(seq a b c nop)`,
		`(seq nop (seq nop (seq nop (seq a b))))`, `(seq a b)`,
	)
}

// P18.1, the second rule.

func TestChoicesOfNops(t *testing.T) {
	becomes(t,
		`(if nop a b)`, `a`,
		`(if nop nop b)`, `nop`,
		`(if a nop nop)`, ``,
		`(if a nop b)`, ``,
		`(if a b nop)`, ``,
		`(and nop a)`, `a`,
		`(and nop nop)`, `nop`,
		`(and a nop)`, ``,
		`(and a b)`, ``,
		`(or nop a)`, `nop`,
		`(or nop nop)`, `nop`,
		`(or a nop)`, ``,
		`(or a b)`, ``,
		// Only a Nop itself.
		`(if (seq a nop) b c)`, ``,
		`(and (seq a nop) b)`, ``,
		`(or (seq a nop) b)`, ``,
		`(or (not nop) a)`, ``,
		`(and (not nop) a)`, ``,
		`(and (set "x" (lit "a")) a)`, ``,
		`(while nop nop)`, ``,
		`(while nop a)`, ``,
		`(while a nop)`, ``,
		// One that is a Nop only when it is passed.
		`(if (seq nop nop) a b)`, `a`,
		`(if (if nop (if nop nop a) b) c a)`, `c`,
		`(and (and (and nop nop) nop) a)`, `a`,
		`(or (or (or nop b) c) a)`, `nop`,
		`(and nop (or nop a))`, `nop`,
		`(or (and nop a) b)`, `(or a b)`,
		// What is put in its place is passed too.
		`(if nop (seq nop a) b)`, `a`,
		`(if nop (if nop (if (not a) b c) a) b)`, `(if a c b)`,
		`(and nop (seq a nop b))`, `(seq a b)`,
	)
}

func TestNots(t *testing.T) {
	becomes(t,
		`(not a)`, ``,
		`(not nop)`, ``,
		`(not (not a))`, ``,
		`(not (not nop))`, ``,
		`(not (not (not a)))`, `(not a)`,
		`(not (not (not (not a))))`, `(not (not a))`,
		`(not (not (not (not (not a)))))`, `(not a)`,
		`(not (not (not (not (not (not a))))))`, `(not (not a))`,
		`(not (not (not nop)))`, `(not nop)`,
		`(not (not (seq nop (not a))))`, `(not a)`,
		`(not (not (seq a (not b))))`, ``,
		`(not (and (not a) (not b)))`, ``,
		`(not (seq nop (not (if nop (not (seq b c)) a))))`, `(not (seq b c))`,
	)
}

// P18.1, the third rule.

func TestIfsOfNots(t *testing.T) {
	becomes(t,
		`(if (not a) b c)`, `(if a c b)`,
		`(if (not (not a)) b c)`, `(if a b c)`,
		`(if (not (not (not a))) b c)`, `(if a c b)`,
		`(if (not (not (not (not a)))) b c)`, `(if a b c)`,
		`(if (not a) nop nop)`, `(if a nop nop)`,
		`(if (not a) nop b)`, `(if a b nop)`,
		`(if a (not b) (not c))`, ``,
		// What comes of it is looked at again.
		`(if (not nop) a b)`, `b`,
		`(if (not (not nop)) a b)`, `a`,
		`(if (not nop) nop nop)`, `nop`,
		`(if (not (or nop a)) b (seq nop c))`, `c`,
		`(if (if nop (not a) b) b c)`, `(if a c b)`,
		`(if (not (seq a (not b))) (seq nop b) (not (not (not c))))`, `(if (seq a (not b)) (not c) b)`,
		// And and Or are none of these.
		`(and (not a) b)`, ``,
		`(or (not a) b)`, ``,
		`(while (not a) b)`, ``,
		`(if (and (not a) (not b)) b c)`, ``,
	)
}

// P18.1, the fourth rule.

func TestHeresOfHeres(t *testing.T) {
	becomes(t,
		`(here (lit "x") (here (var "y") a))`, `(here (var "y") a)`,
		`(here (lit "x") (here (var "y") (here (lit "z") a)))`, `(here (lit "z") a)`,
		`(here (lit "x") (seq nop (here (lit "z") a)))`, `(here (lit "z") a)`,
		`(here (lit "x") (here (cat) (seq a nop)))`, `(here (cat) (seq a nop))`,
		// Of a word that runs a command, neither goes.
		`(here (sub nop) (here (var "y") a))`, ``,
		`(here (lit "x") (here (sub nop) a))`, ``,
		`(here (sub nop) (here (sub nop) a))`, ``,
		`(here (cat (lit "x") (flat (sub nop))) (here (var "y") a))`, ``,
		`(here (lit "x") (here (join (lit "y") (count (sub nop))) a))`, ``,
		`(here (lit "x") (here (sub nop) (here (lit "y") a)))`, ``,
		`(here (sub nop) (here (lit "x") (here (lit "y") a)))`, `(here (sub nop) (here (lit "y") a))`,
		`(here (lit "x") (here (lit "y") (here (sub nop) a)))`, `(here (lit "y") (here (sub nop) a))`,
		// Only a Here right in a Here.
		`(here (lit "x") a)`, ``,
		`(here (lit "x") (seq (here (lit "y") a) b))`, ``,
		`(here (lit "x") (not (here (lit "y") a)))`, ``,
		`(here (lit "x") (local "y" (lit "y") (here (lit "y") a)))`, ``,
		`(local "x" (lit "y") (here (lit "y") a))`, ``,
		`(local "x" (lit "y") (local "x" (lit "z") a))`, ``,
		`(redir 1 (lit "x") (here (lit "y") a))`, ``,
		`(here (lit "y") (redir 1 (lit "x") a))`, ``,
		// A Sub in the command is none of the word.
		`(here (lit "x") (here (var "y") (call (sub nop))))`, `(here (var "y") (call (sub nop)))`,
	)
}

// P18.1, the fifth rule.

func TestWordsOfNothing(t *testing.T) {
	becomes(t,
		`(here (lit "x") nop)`, `nop`,
		`(here (cat) nop)`, `nop`,
		`(here (flat (glob (split (var "x")))) nop)`, `nop`,
		`(here (lit "x") (seq nop nop))`, `nop`,
		`(here (lit "x") (here (lit "y") nop))`, `nop`,
		`(here (sub nop) (here (lit "y") nop))`, `(here (sub nop) nop)`,
		`(here (sub nop) nop)`, ``,
		`(here (join (lit "x") (sub nop)) nop)`, ``,
		`(here (lit "x") (here (sub nop) nop))`, ``,
		`(local "x" (lit "y") nop)`, `nop`,
		`(local "x" (var "x") nop)`, `nop`,
		`(local "x" (cat) (or nop a))`, `nop`,
		`(local "x" (lit "y") (local "z" (lit "y") nop))`, `nop`,
		`(local "x" (sub nop) nop)`, ``,
		`(local "x" (pick 2 (cat (var "y") (sub nop))) nop)`, ``,
		`(local "x" (lit "y") a)`, ``,
		`(local "x" (lit "y") (seq a nop))`, ``,
		`(case (lit "x"))`, `nop`,
		`(case (glob (lit 1 "*")))`, `nop`,
		`(case (cat))`, `nop`,
		`(case (sub nop))`, ``,
		`(case (flat (cat (lit "x") (sub nop))))`, ``,
		`(case (lit "x") (lit "x") nop)`, ``,
		`(case (lit "x") (cat) nop)`, ``,
		`(case (lit "x") (lit "x") (seq nop nop) (lit "y") (seq nop a))`, `(case (lit "x") (lit "x") nop (lit "y") a)`,
		// A Set stays, and so do Call, Frame, For, Fun, Pipe and Eval of nothing.
		`(set "x" (var "x"))`, ``,
		`(call (cat))`, ``,
		`(frame nop)`, ``,
		`(frame (lit "x") nop)`, ``,
		`(for "i" (cat) nop)`, ``,
		`(for "i" (lit "x") nop)`, ``,
		`(fun "g" nop)`, ``,
		`(pipe nop nop)`, ``,
		`(pipe (pipe nop a) nop)`, ``,
		`(eval (lit ""))`, ``,
	)
}

// P18.1: from below to above, words' commands too.

func TestFromBelow(t *testing.T) {
	becomes(t,
		`nop`, ``,
		`(seq (local "x" (lit "y") (seq nop nop)) (seq (here (lit "y") (if (not nop) a nop)) b))`, `b`,
		`(call (sub (seq nop a)))`, `(call (sub a))`,
		`(call (lit "x") (cat (sub (seq nop nop)) (join (sub (and nop b)))))`, `(call (lit "x") (cat (sub nop) (join (sub b))))`,
		`(set "x" (esc (sub (here (lit "y") nop))))`, `(set "x" (esc (sub nop)))`,
		`(here (sub (seq nop a)) (seq nop nop))`, `(here (sub a) nop)`,
		`(local "x" (flat (sub (case (lit "y")))) (seq nop a))`, `(local "x" (flat (sub nop)) a)`,
		`(case (sub (seq nop a)) (sub (seq nop b)) (seq nop c))`, `(case (sub a) (sub b) c)`,
		`(for "i" (sub (or nop a)) (not (not (not b))))`, `(for "i" (sub nop) (not b))`,
		`(redir 1 (sub (seq nop a)) (seq nop b))`, `(redir 1 (sub a) b)`,
		`(eval (sub (if nop a b)))`, `(eval (sub a))`,
		`(frame (sub (seq nop a)) (lit "x") (seq nop b))`, `(frame (sub a) (lit "x") b)`,
		`(fun "g" (seq nop (fun "h" (seq nop nop))))`, `(fun "g" (fun "h" nop))`,
		`(pipe (seq nop a) (if nop b c) (and nop c))`, `(pipe a b c)`,
		`(while (seq nop a) (or nop b))`, `(while a nop)`,
		`(call (sub (call (sub (call (sub (seq nop a)))))))`, `(call (sub (call (sub (call (sub a))))))`,
	)
}

// Words stay as they are, whatever could be told of them.
func TestWordsStay(t *testing.T) {
	becomes(t,
		`(call (cat (cat (lit "x") (lit "y"))) (flat (lit "z")) (join (lit "x") (lit "")))`, ``,
		`(set "x" (glob (split (plain (esc (pick 1 (count (var "*"))))))))`, ``,
		`(for "i" (cat) a)`, ``,
		`(call (lit 1 "nop") (lit "\00\ff"))`, ``,
	)
}

// P18.1: Silent.
func TestSilent(t *testing.T) {
	for s, want := range map[string]bool{
		`(lit "x")`:   true,
		`(lit 1 "*")`: true,
		`(var "x")`:   true,
		`(var "*")`:   true,
		`(cat)`:       true,
		`(cat (lit "x") (join (var "x") (lit "y")))`:   true,
		`(glob (split (plain (esc (flat (cat))))))`:    true,
		`(count (pick 1 (var "x")))`:                   true,
		`(sub (nop))`:                                  false,
		`(sub (call (lit "x")))`:                       false,
		`(cat (sub (nop)))`:                            false,
		`(cat (lit "x") (sub (nop)) (lit "y"))`:        false,
		`(cat (lit "x") (join (var "x") (sub (nop))))`: false,
		`(join (lit "x") (sub (nop)))`:                 false,
		`(split (sub (nop)))`:                          false,
		`(glob (sub (nop)))`:                           false,
		`(plain (sub (nop)))`:                          false,
		`(esc (sub (nop)))`:                            false,
		`(flat (sub (nop)))`:                           false,
		`(count (sub (nop)))`:                          false,
		`(pick 99 (sub (nop)))`:                        false,
		`(sub (call (sub (nop))))`:                     false,
	} {
		l := core.Kids(program(t, `(set "x" `+s+`)`))[0]
		was := slices.Clone(l)
		if got := Silent(l); got != want || !core.Same(l, was) {
			t.Errorf("Silent(%s): %v", s, got)
		}
	}
	deep := of(api.Sub, nop())
	for range 1000 {
		deep = of(api.Flat, deep)
	}
	many := slices.Repeat([][]api.Node{core.Lit("x")}, 2*api.MaxNodes)
	if Silent(deep) || !Silent(of(api.Cat, many...)) || Silent(of(api.Cat, append(many, of(api.Sub, nop()))...)) {
		t.Error("Silent of much")
	}
	if !Silent(nil) || !Silent([]api.Node{}) {
		t.Error("there is no Sub in nothing")
	}
}

// P18.1: what may not be, or is no program, is copied.
func TestWhatMayNotBe(t *testing.T) {
	a, dull := say("a"), of(api.Seq, nop(), nop())
	odd := api.Node{Kind: -7, N: 1 << 40, K: -3, Size: 1 << 40, S: "\xff"}
	size := func(l []api.Node, i, size int) []api.Node {
		l = slices.Clone(l)
		l[i].Size = size
		return l
	}
	for i, l := range [][]api.Node{
		nil, {}, {odd}, {odd, odd}, core.Lit("a"), get("x"), of(api.Sub, dull), of(api.Cat, of(api.Sub, dull)),
		of(api.Seq), of(api.Seq, nop()), of(api.Seq, dull, core.Lit("a")), of(api.Seq, core.Lit("a"), dull), of(api.Pipe, dull),
		of(api.If, nop(), a), of(api.If, nop()), of(api.If, nop(), a, a, a), of(api.And, nop()), of(api.Or, nop()), of(api.And, nop(), a, a),
		of(api.Not), of(api.Not, dull, dull), of(api.Not, of(api.Not, of(api.Not))), of(api.Not, core.Lit("a")),
		of(api.Here, core.Lit("a")), of(api.Here, nop(), nop()), of(api.Here, core.Lit("a"), core.Lit("a")), of(api.Here),
		of(api.Local, core.Lit("a"), nop()), core.New(api.Local, 0, "1", core.Lit("a"), nop()), core.New(api.Local, 0, "x", core.Lit("a")),
		of(api.Case), of(api.Case, nop()), of(api.Case, core.Lit("a"), core.Lit("a")), core.New(api.Case, 1, "", core.Lit("a")),
		core.New(api.Redir, 4, "", core.Lit("a"), dull), core.New(api.Redir, 0, "", core.Lit("a"), dull),
		core.New(api.Seq, 1, "", nop(), nop()), core.New(api.Seq, 0, "s", nop(), nop()), core.New(api.Nop, 0, "s"),
		of(api.Seq, dull, core.New(api.Call, 0, "", core.New(api.Lit, 2, "a"))), of(api.Seq, dull, core.New(api.Set, 0, "", core.Lit("a"))),
		size(dull, 0, 2), size(dull, 0, 4), size(dull, 0, 0), size(dull, 1, 2), size(dull, 2, -1), size(dull, 0, 1<<62), append(slices.Clone(dull), odd),
		make([]api.Node, 2*api.MaxNodes),
	} {
		if got := Pass(l); !core.Same(got, l) {
			t.Errorf("Pass of %d: %v", i, got)
		}
	}
	Silent([]api.Node{odd, odd})
}

// below is the command below so many nodes of the kind.
func below(n, kind int, command []api.Node) []api.Node {
	for range n {
		command = of(kind, command)
	}
	return command
}

func TestAtTheBounds(t *testing.T) {
	if got := Pass(below(api.MaxNest-1, api.Not, nop())); !core.Same(got, below(1, api.Not, nop())) {
		t.Error(spell.Print(got))
	}
	over := below(api.MaxNest, api.Not, nop())
	if got := Pass(over); !core.Same(got, over) {
		t.Error(spell.Print(got))
	}
	nops := func(n int) []api.Node { return of(api.Seq, slices.Repeat([][]api.Node{nop()}, n)...) }
	if got := Pass(nops(api.MaxNodes - 1)); !core.Same(got, nop()) {
		t.Error(len(got))
	}
	if got := Pass(nops(api.MaxNodes)); !core.Same(got, nops(api.MaxNodes)) {
		t.Error(len(got))
	}
	// Seqs in Seqs, as deep as may be.
	deep, want := say("a"), [][]api.Node{say("a")}
	for range api.MaxNest - 2 {
		deep, want = of(api.Seq, nop(), deep, say("b")), append(want, say("b"))
	}
	if got := Pass(deep); core.Depth(deep) != api.MaxNest || !core.Same(got, of(api.Seq, want...)) {
		t.Error(spell.Print(got))
	}
	deeper := of(api.Seq, nop(), deep)
	if got := Pass(deeper); !core.Same(got, deeper) {
		t.Error(spell.Print(got))
	}
}

// P18.2: a Redir is never taken out.
func TestRedirsStay(t *testing.T) {
	becomes(t,
		`(redir 1 (lit "f") nop)`, ``,
		`(redir 2 (lit "f") nop)`, ``,
		`(redir 3 (lit "f") nop)`, ``,
		`(redir 2 (cat) nop)`, ``,
		`(redir 2 (sub nop) nop)`, ``,
		`(redir 2 (lit "f") (seq nop nop))`, `(redir 2 (lit "f") nop)`,
		`(redir 2 (lit "f") (redir 2 (lit "f") nop))`, ``,
		`(redir 1 (lit "f") (redir 1 (lit "g") a))`, ``,
		`(here (lit "x") (redir 2 (lit "f") nop))`, ``,
		`(local "x" (lit "y") (redir 2 (lit "f") nop))`, ``,
		`(redir 2 (lit "f") (here (lit "x") nop))`, `(redir 2 (lit "f") nop)`,
		`(redir 1 (lit "f") (here (lit "x") (here (lit "y") nop)))`, `(redir 1 (lit "f") nop)`,
		`(seq nop (redir 2 (lit "f") nop) nop)`, `(seq (redir 2 (lit "f") nop) nop)`,
		`(seq (redir 2 (lit "f") nop) a)`, ``,
		`(if (redir 2 (lit "f") nop) a b)`, ``,
		`(and (redir 2 (lit "f") nop) a)`, ``,
		`(or (redir 2 (lit "f") nop) a)`, ``,
		// It is what never runs that goes, whatever is in it.
		`(or nop (redir 2 (lit "f") nop))`, `nop`,
		`(if nop a (redir 2 (lit "f") nop))`, `a`,
		`(if (not nop) (redir 2 (lit "f") nop) (redir 3 (lit "f") nop))`, `(redir 3 (lit "f") nop)`,
	)
}

// P18.2

// spoil writes over a list and the spare room behind it.
func spoil(l []api.Node) {
	l = l[:cap(l)]
	for i := range l {
		l[i] = api.Node{Kind: -9, N: -9, K: -9, Size: -9, S: "spoilt"}
	}
}

// hiding is the list with room behind it in which other nodes lie.
func hiding(l []api.Node) []api.Node {
	return append(slices.Clone(l), nop()[0], core.Lit("hidden")[0])[:len(l)]
}

func TestListsAreNewMemory(t *testing.T) {
	for _, s := range []string{
		`nop`, `a`, `(seq a b)`, `(seq nop a)`, `(seq nop nop)`, `(seq (seq a b) c)`, `(seq a nop)`, `(if nop a b)`, `(if (not a) b c)`, `(if (not nop) a b)`, `(if a b c)`,
		`(and nop a)`, `(or nop a)`, `(or a b)`, `(not (not (not a)))`, `(not (not a))`, `(here (lit "x") nop)`, `(here (lit "x") (here (lit "y") a))`,
		`(here (lit "x") a)`, `(local "x" (lit "y") nop)`, `(local "x" (lit "y") a)`, `(case (lit "x"))`, `(case (lit "x") (lit "y") (seq nop a))`,
		`(redir 2 (lit "f") nop)`, `(call (sub (seq nop a)))`, `(frame (lit "x") (seq nop a))`,
	} {
		l := program(t, long(s))
		asksNewMemory(t, s, l)
		// A copy is new memory too.
		asksNewMemory(t, s, of(api.Seq, l))
	}
}

func asksNewMemory(t *testing.T, what string, l []api.Node) {
	t.Helper()
	handed := hiding(l)
	whole := slices.Clone(handed[:len(handed)+2])
	first, next := Pass(handed), Pass(handed)
	want := slices.Clone(first)
	Silent(handed)
	if !core.Same(first, next) || !slices.Equal(handed[:len(handed)+2], whole) {
		t.Error(what, "has changed")
	}
	spoil(first)
	if !core.Same(next, want) || !slices.Equal(handed[:len(handed)+2], whole) || !core.Same(Pass(handed), want) {
		t.Error(what, "is shared")
	}
	spoil(handed)
	if !core.Same(next, want) {
		t.Error(what, "is what was handed in")
	}
}
