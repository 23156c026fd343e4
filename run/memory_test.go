package run

import (
	"slices"
	"testing"

	"patois/api"
	"patois/core"
	"patois/spell"
)

// hidden is a list with items behind its length.
func hidden[T any](behind T, items ...T) []T {
	return append(slices.Clone(items), behind, behind)[:len(items)]
}

// spoil writes over a list and all of its spare room.
func spoil[T any](list []T, with T) {
	all := list[:cap(list)]
	for i := range all {
		all[i] = with
	}
}

// handed is all that a run is handed, each list with items behind its length.
type handed struct {
	l []api.Node
	w api.World
	o Options
}

func handOver() handed {
	file, row, value := api.File{Name: "hidden"}, api.Row{Name: "hidden"}, api.Value{Name: "hidden"}
	h := handed{l: hidden(api.Node{Kind: 99}, seq(
		fun("f", show(get("*"))), call("f", "a", "b"), call("up", "1", "2"), redir(3, "f", call("put", "c")),
		let("w", of(api.Cat, get("v"), get("*"))), let("e", list()), eval(`(call (lit "no") (var "v"))`),
	)...)}
	h.w.Files = hidden(file, api.File{Name: "f", Data: "d"}, api.File{Name: "g"})
	h.w.Rows = hidden(row, api.Row{Name: "up", Args: hidden("hidden", "1", "2"), Out: "o"})
	h.o = Defaults()
	h.o.Parse = spell.Parse
	h.o.Args = hidden("hidden", "A", "B")
	h.o.Vars = hidden(value, api.Value{Name: "v", L: hidden("hidden", "p", "q")}, api.Value{Name: "u", L: hidden("hidden")})
	return h
}

// is asks whether all that was handed in is as it was, and what is behind it.
func (h handed) is(t *testing.T, was handed) {
	t.Helper()
	all := func(l []string) []string { return l[:len(l)+2] }
	same := slices.Equal(h.l[:len(h.l)+2], was.l[:len(was.l)+2]) &&
		slices.Equal(h.w.Files[:4], was.w.Files[:4]) &&
		slices.Equal(all(h.w.Rows[0].Args), all(was.w.Rows[0].Args)) && h.w.Rows[:3][1].Name == "hidden" && h.w.Rows[:3][2].Name == "hidden" &&
		slices.Equal(all(h.o.Args), all(was.o.Args)) && h.o.Vars[:4][2].Name == "hidden" && h.o.Vars[:4][3].Name == "hidden"
	for i := range h.o.Vars {
		same = same && h.o.Vars[i].Name == was.o.Vars[i].Name && slices.Equal(all(h.o.Vars[i].L), all(was.o.Vars[i].L))
	}
	if !same {
		t.Error("what was handed in has changed:", h)
	}
}

// spoilAll writes over all that was handed in.
func (h handed) spoilAll() {
	spoil(h.l, api.Node{Kind: 98})
	spoil(h.w.Rows[0].Args, "spoiled")
	spoil(h.w.Files, api.File{Name: "spoiled"})
	spoil(h.w.Rows, api.Row{Name: "spoiled"})
	spoil(h.o.Args, "spoiled")
	for _, v := range h.o.Vars {
		spoil(v.L, "spoiled")
	}
	spoil(h.o.Vars, api.Value{Name: "spoiled"})
}

const (
	handedTold = ">a b exec(up,1,2)0: >o dup3 open3(f) f>c close3 exec(no,p,q)127:"
	handedVars = "e=() u=() v=(p,q) w=(p,q,A,B)"
)

// P9.2

func TestWhatIsHandedInStays(t *testing.T) {
	h := handOver()
	r := result(t, h.l, h.w, h.o)
	h.is(t, handOver())
	h.spoilAll()
	if told(r.Trace) != handedTold || toldVars(r.Vars) != handedVars || toldFiles(r.Files) != "f:dc g:" || r.Status != api.Unknown {
		t.Error(told(r.Trace), toldVars(r.Vars), toldFiles(r.Files))
	}
}

func TestWhatAWordIsHandedStays(t *testing.T) {
	for _, word := range [][]api.Node{get("*"), get("v"), get("u"), lit("a"), list(), of(api.Cat, get("*")), of(api.Join, get("v")), of(api.Flat, get("v")), of(api.Plain, get("v")), node(api.Pick, 1, "", get("*"))} {
		h := handOver()
		h.l = hidden(api.Node{Kind: 99}, word...)
		one, err := Word(h.l, h.w, h.o)
		other, _ := Word(h.l, h.w, h.o)
		if err != nil {
			t.Fatal(err)
		}
		was := handOver()
		was.l = hidden(api.Node{Kind: 99}, word...)
		h.is(t, was)
		want := slices.Clone(other)
		spoil(one, "spoiled")
		h.is(t, was)
		if !slices.Equal(other, want) {
			t.Errorf("%s: an answer shows what was written into another: %q", spell.Print(word), other)
		}
		h.spoilAll()
		if !slices.Equal(other, want) {
			t.Errorf("%s: an answer hangs on what was handed in: %q", spell.Print(word), other)
		}
	}
}

// The lists of a result are its owner's, down to their spare room.
func TestResultsAreNew(t *testing.T) {
	h := handOver()
	one, other := result(t, h.l, h.w, h.o), result(t, h.l, h.w, h.o)
	for i := range one.Trace {
		spoil(one.Trace[i].L, "spoiled")
		if i+1 < len(one.Trace) && !slices.Equal(one.Trace[i+1].L, other.Trace[i+1].L) {
			t.Error("of one answer:", one.Trace)
		}
	}
	for i := range one.Vars {
		_ = append(one.Vars[i].L, "spoiled")
		spoil(one.Vars[i].L, "spoiled")
		if i+1 < len(one.Vars) && !slices.Equal(one.Vars[i+1].L, other.Vars[i+1].L) {
			t.Error("of one answer:", one.Vars)
		}
	}
	spoil(one.Trace, api.Event{Kind: 99})
	spoil(one.Vars, api.Value{Name: "spoiled"})
	spoil(one.Files, api.File{Name: "spoiled"})
	h.is(t, handOver())
	if told(other.Trace) != handedTold || toldVars(other.Vars) != handedVars || toldFiles(other.Files) != "f:dc g:" {
		t.Error(told(other.Trace), toldVars(other.Vars), toldFiles(other.Files))
	}
	if again := result(t, h.l, h.w, h.o); !SameResult(again, other) {
		t.Error(again)
	}
}

// A Parse may answer the same memory each time, also while the program that it
// answered before is still run; and keep its hands on it.
func TestParsesMemory(t *testing.T) {
	buffer := make([]api.Node, 0, 100)
	o := Defaults()
	o.Parse = func(s string) ([]api.Node, error) {
		l, err := spell.Parse(s)
		spoil(buffer, api.Node{Kind: 99})
		buffer = append(buffer[:0], l...)
		return buffer, err
	}
	inner := spell.Print(fun("f", call("put", "f")))
	outer := spell.Print(seq(call("put", "1"), eval(inner), call("put", "2"), call("f"), call("put", "3")))
	r := result(t, seq(eval(outer), call("f"), eval("(nop)"), call("f")), some(), o)
	if told(r.Trace) != ">1 >2 >f >3 >f >f" || r.Err != nil {
		t.Error(told(r.Trace), r.Err)
	}
	if !slices.Equal(buffer, nop()) {
		t.Error("what a Parse answered was changed:", buffer)
	}
}

// A Parse may write into what its caller handed in: the run goes on with what it
// was when it began.
func TestParsesThatWrite(t *testing.T) {
	h := handOver()
	h.l = seq(call("put", "1"), eval("a"), call("put", "2"), show(get("v"), get("*")), call("up", "1", "2"), redir(1, "f", call("cat")))
	h.o.Parse = func(string) ([]api.Node, error) {
		h.spoilAll()
		return nop(), nil
	}
	r := result(t, h.l, h.w, h.o)
	if want := ">1 >2 >p q A B exec(up,1,2)0: >o dup1 open1(f) >d close1"; told(r.Trace) != want || r.Err != nil {
		t.Errorf("%s %v, not %s", told(r.Trace), r.Err, want)
	}
	h = handOver()
	h.l = of(api.Cat, sub(eval("a")), get("v"), sub(call("put", "x")), get("*"))
	h.o.Parse = func(string) ([]api.Node, error) {
		h.spoilAll()
		return nop(), nil
	}
	list, err := Word(h.l, h.w, h.o)
	if !slices.Equal(list, ls("", "p", "q", "x", "A", "B")) || err != nil {
		t.Errorf("%q %v", list, err)
	}
}

// A Parse may itself run programs.
func TestParsesThatRun(t *testing.T) {
	o := Defaults()
	o.Parse = func(s string) ([]api.Node, error) {
		list, err := Word(of(api.Join, lit("<"), get("x"), lit(">")), some(), Options{Vars: []api.Value{{Name: "x", L: ls(s)}}})
		return call(append(ls("put"), list...)...), err
	}
	r := result(t, seq(let("x", lit("mine")), eval("a"), show(get("x"))), some(), o)
	if told(r.Trace) != "><a> >mine" {
		t.Error(told(r.Trace))
	}
}

// A program that stands for a name is not changed by what is answered of it.
func TestFunctionsAreKeptApart(t *testing.T) {
	body := seq(call("put", "a"), call("put", "b"))
	l := seq(fun("f", body), fun("g", body), call("f"), fun("f", nop()), call("f"), call("g"))
	was := slices.Clone(l)
	r := result(t, l, some(), Defaults())
	if told(r.Trace) != ">a >b >a >b" || !core.Same(l, was) {
		t.Error(told(r.Trace))
	}
}
