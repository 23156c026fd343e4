package run

import (
	"errors"
	"math"
	"slices"
	"strings"
	"testing"

	"patois/api"
	"patois/spell"
)

// heavy is a word of one item of n bytes.
func heavy(n int) []api.Node { return lit(x(n)) }

// mark is a word that shows in the trace that it was looked at.
func mark() []api.Node { return sub(redir(3, "m", nop())) }

const marked = "dup3 open3(m) close3"

// stops runs a program over some world and asks for the error that ends it and
// the events up to there.
func stops(t *testing.T, l []api.Node, bad error, events string) api.Result {
	t.Helper()
	r := result(t, l, some(), with("i1\ni2\ni3", "A", "B"))
	if got := told(r.Trace); got != events || r.Err != bad || r.Status != 0 {
		t.Errorf("%.300s: %.300q %v %d, not %.300q %v", spell.Print(l), got, r.Err, r.Status, events, bad)
	}
	return r
}

// P9.1: what is too big

func TestCatsBounds(t *testing.T) {
	full := list(xs(api.MaxList)...)
	makes(t, full, xs(api.MaxList)...)
	makes(t, of(api.Cat, full, list()), xs(api.MaxList)...)
	stops(t, let("y", of(api.Cat, full, mark())), api.ErrBig, marked)
	stops(t, let("y", of(api.Cat, full, lit("y"), mark())), api.ErrBig, "")
	stops(t, let("y", of(api.Cat, full, list(), mark())), api.ErrBig, marked)
	stops(t, let("y", of(api.Cat, mark(), full, mark())), api.ErrBig, marked)
	stops(t, let("y", node(api.Pick, 1, "", of(api.Cat, full, lit("y")))), api.ErrBig, "")
	stops(t, let("y", of(api.Count, of(api.Cat, full, full))), api.ErrBig, "")
}

func TestJoinsBounds(t *testing.T) {
	makes(t, of(api.Join, heavy(api.MaxString-1), lit("y")), x(api.MaxString-1)+"y")
	makes(t, of(api.Join, heavy(api.MaxString), list()), x(api.MaxString))
	stops(t, let("y", of(api.Join, heavy(api.MaxString), mark())), nil, marked)
	stops(t, let("y", of(api.Join, heavy(api.MaxString), lit("y"), mark())), api.ErrBig, "")
	stops(t, let("y", of(api.Join, mark(), heavy(api.MaxString), lit("y"), mark())), api.ErrBig, marked)
	stops(t, let("y", of(api.Flat, of(api.Join, list("a", x(api.MaxString)), lit("y")))), api.ErrBig, "")
	makes(t, of(api.Join, of(api.Cat, lit("a"), heavy(api.MaxString)), list("1", "")), "a1", x(api.MaxString))
	// What another child would leave out is too big all the same.
	stops(t, let("y", of(api.Join, list("a", "b", x(api.MaxString)), lit("y"), get("v"))), api.ErrBig, "")
	makes(t, of(api.Join, list("a", "b", x(api.MaxString)), get("v"), lit("y")), "apy", "bqy")
}

func TestOtherWordsBounds(t *testing.T) {
	half := api.MaxString / 2
	makes(t, of(api.Esc, lit(strings.Repeat("*", half))), strings.Repeat(`\*`, half))
	stops(t, let("y", of(api.Esc, lit(strings.Repeat("*", half+1)))), api.ErrBig, "")
	makes(t, of(api.Flat, list(x(half), x(half-1))), x(half)+" "+x(half-1))
	stops(t, let("y", of(api.Flat, list(x(half), x(half)))), api.ErrBig, "")
	makes(t, of(api.Split, live(strings.Repeat("x ", api.MaxList))), xs(api.MaxList)...)
	stops(t, let("y", of(api.Split, live(strings.Repeat("x ", api.MaxList+1)))), api.ErrBig, "")
	both := func(n int) []api.Node {
		return of(api.Glob, of(api.Cat, slices.Repeat([][]api.Node{live("*")}, n)...))
	}
	makes(t, of(api.Count, both(api.MaxList/2)), "100")
	stops(t, let("y", both(api.MaxList/2+1)), api.ErrBig, "")
	makes(t, of(api.Count, of(api.Plain, list(xs(api.MaxList)...))), "100")
}

func TestCallsBounds(t *testing.T) {
	most := list(xs(api.MaxList - 1)...)
	well(t, of(api.Call, lit("true"), most, list()), "", 0, 1)
	stops(t, of(api.Call, lit("true"), most, lit("y"), mark()), api.ErrBig, "")
	stops(t, of(api.Call, lit("true"), most, mark()), api.ErrBig, marked)
	well(t, seq(fun("f", show(of(api.Count, get("*")))), of(api.Call, lit("f"), most)), ">99", 0, 3)
	stops(t, seq(fun("f", call("put", "a")), of(api.Call, lit("f"), most, lit("y"))), api.ErrBig, "")
}

func TestFramesBounds(t *testing.T) {
	most := list(xs(api.MaxList - 1)...)
	count := show(of(api.Count, get("*")))
	well(t, of(api.Frame, most, count), ">99", 0, 2)
	well(t, of(api.Frame, most, list(), count), ">99", 0, 2)
	stops(t, of(api.Frame, most, lit("y"), count), api.ErrBig, "")
	stops(t, of(api.Frame, list(xs(api.MaxList)...), count), api.ErrBig, "")
	stops(t, of(api.Frame, list(xs(api.MaxList)...), mark(), count), api.ErrBig, "")
	stops(t, of(api.Frame, lit("y"), most, mark(), count), api.ErrBig, "")
	stops(t, of(api.Frame, most, mark(), count), api.ErrBig, marked)
	stops(t, of(api.Frame, most, most, count), api.ErrBig, "")
	// It is too big ahead of being too deep.
	r, err := Run(of(api.Frame, list(xs(api.MaxList)...), nop()), some(), Options{Steps: 5})
	if err != nil || r.Err != api.ErrBig {
		t.Error(r.Err, err)
	}
}

// A word that is to be one string may be too long for that.
func TestFlatsBounds(t *testing.T) {
	half := api.MaxString / 2
	big, fits := list(x(half), x(half)), list(x(half), x(half-1))
	for what, make := range map[string]func(word []api.Node) []api.Node{
		"case":  func(w []api.Node) []api.Node { return of(api.Case, w, live("*"), nop()) },
		"redir": func(w []api.Node) []api.Node { return node(api.Redir, 1, "", w, nop()) },
		"here":  func(w []api.Node) []api.Node { return here(w, nop()) },
		"eval":  func(w []api.Node) []api.Node { return of(api.Eval, w) },
	} {
		if r := result(t, make(big), some(), Defaults()); r.Err != api.ErrBig || len(r.Trace) > 0 || r.Steps != 1 {
			t.Error(what, r.Err, told(r.Trace), r.Steps)
		}
		if r := result(t, make(fits), some(), Defaults()); r.Err != nil {
			t.Error(what, r.Err)
		}
	}
}

func TestWhatIsCaughtHasBounds(t *testing.T) {
	most := call("put", x(api.MaxString))
	makes(t, sub(most), x(api.MaxString))
	makes(t, sub(call("echo", x(api.MaxString-1))), x(api.MaxString-1))
	makes(t, sub(seq(most, call("put"), call("true"))), x(api.MaxString))
	// Newlines at its end are caught as all else is.
	stops(t, let("y", sub(call("echo", x(api.MaxString)))), api.ErrBig, "")
	stops(t, let("y", sub(seq(most, call("put", "y"), mark()[1:]))), api.ErrBig, "")
	stops(t, let("y", sub(seq(call("put", "y"), mark()[1:], most))), api.ErrBig, marked)
	stops(t, pipe(seq(most, call("put", "y")), call("up")), api.ErrBig, "tube2")
	stops(t, pipe(most, seq(call("cat"), call("put", "y")), call("up")), api.ErrBig, "tube3")
	stops(t, pipe(most, call("up"), call("up")), api.ErrBig, "tube3 exec(up)3:"+x(api.MaxString))
	// What a pipe says at its end is not caught, nor is what goes to a file.
	stops(t, pipe(most, seq(call("cat"), call("put", "y"))), nil, "tube2 >"+x(api.MaxString)+" >y close2")
	stops(t, let("y", sub(redir(2, "m", seq(most, most)))), nil, "dup2 open2(m) m>"+x(api.MaxString)+" m>"+x(api.MaxString)+" close2")
	// Each that catches has its own bounds.
	r := stops(t, let("y", sub(seq(show(node(api.Pick, 2, "", of(api.Cat, sub(most), sub(call("put", "y"))))), call("put", x(api.MaxString-1))))), nil, "")
	if toldVars(r.Vars) != "v=(p,q) y=(y"+x(api.MaxString-1)+")" {
		t.Error(toldVars(r.Vars))
	}
}

func TestFilesHaveBounds(t *testing.T) {
	w := api.World{Files: []api.File{{Name: "f", Data: x(api.MaxFile - 1)}}}
	r := result(t, seq(redir(3, "f", seq(call("put", "y"), call("put"), call("put", "z"))), call("put", "a")), w, Defaults())
	if r.Err != api.ErrBig || told(r.Trace) != "dup3 open3(f) f>y" || r.Files[0].Data != x(api.MaxFile-1)+"y" {
		t.Error(r.Err, told(r.Trace))
	}
	r = result(t, redir(1, "f", call("cat")), w, Defaults())
	if r.Err != nil || told(r.Trace) != "dup1 open1(f) >"+x(api.MaxFile-1)+" close1" {
		t.Error(r.Err, told(r.Trace))
	}
	if r = result(t, redir(1, "f", let("y", sub(call("cat")))), w, Defaults()); r.Err != api.ErrBig {
		t.Error(r.Err)
	}
}

func TestWhatIsReadHasBounds(t *testing.T) {
	w := api.World{Files: []api.File{{Name: "f", Data: x(api.MaxString) + "\ny"}, {Name: "g", Data: x(api.MaxString+1) + "\ny"}}}
	read := seq(call("read", "v"), call("put", "a"))
	if r := result(t, redir(1, "f", read), w, with("")); r.Err != nil || toldVars(r.Vars) != "v=("+x(api.MaxString)+")" {
		t.Error(r.Err, toldVars(r.Vars))
	}
	if r := result(t, redir(1, "g", read), w, with("")); r.Err != api.ErrBig || toldVars(r.Vars) != "v=(p,q)" || told(r.Trace) != "dup1 open1(g)" || r.Status != 0 {
		t.Error(r.Err, toldVars(r.Vars), told(r.Trace))
	}
}

// P9.1: steps and depth

// Without a step left nothing that takes one does anything.
func TestNoSteps(t *testing.T) {
	a := call("put", "a")
	for _, l := range [][]api.Node{
		a, call("f"), let("v", lit("a")), fun("f", a), of(api.While, nop(), nop()), each("v", lit("a"), nop()),
		of(api.Case, lit("a"), live("a"), nop()), pipe(nop(), nop()), redir(2, "f", nop()), redir(2, "", nop()), here(lit("a"), nop()),
		local("v", lit("a"), nop()), eval("a"), of(api.Frame, nop()), of(api.Call, list()), of(api.Not, a), of(api.If, nop(), a, nop()),
	} {
		o := with("", "A")
		o.Steps, o.Parse = 0, func(string) ([]api.Node, error) { panic("asked") }
		r := result(t, l, some(), o)
		if r.Err != api.ErrFuel || r.Status != 0 || r.Steps != 0 || len(r.Trace) > 0 || toldVars(r.Vars) != "v=(p,q)" || toldFiles(r.Files) != "a.c:c f:one|two|" {
			t.Error(spell.Print(l), r)
		}
	}
	for _, l := range [][]api.Node{nop(), seq(nop(), nop()), of(api.If, nop(), nop(), nop()), of(api.And, nop(), nop()), of(api.Or, nop(), nop()), of(api.Not, of(api.Not, nop())), each("i", list(), nop())} {
		if r := result(t, l, some(), Options{}); r.Err != nil || r.Status != 0 || r.Steps != 0 {
			t.Error(spell.Print(l), r)
		}
	}
}

// deep runs a program with so much depth, and asks for its error and steps.
func deep(t *testing.T, depth int, l []api.Node, bad error, steps int) {
	t.Helper()
	o := echoing()
	o.Depth = depth
	if r := result(t, l, some(), o); r.Err != bad || r.Steps != steps {
		t.Errorf("%d: %.300s: %v %d, not %v %d", depth, spell.Print(l), r.Err, r.Steps, bad, steps)
	}
}

func TestDepth(t *testing.T) {
	f, e := fun("f", nop()), eval("(nop)")
	deep(t, 0, seq(f, call("f")), api.ErrDeep, 2)
	deep(t, 0, of(api.Frame, nop()), api.ErrDeep, 1)
	deep(t, 0, e, api.ErrDeep, 1)
	deep(t, 0, eval("no program"), api.ErrDeep, 1)
	deep(t, 0, let("y", sub(nop())), api.ErrDeep, 2)
	deep(t, 0, seq(f, call("true"), call("up"), pipe(nop(), nop()), redir(1, "f", nop()), here(lit("a"), nop()), local("y", lit("a"), nop())), nil, 7)
	// Behind each it is as deep as it was.
	all := seq(f, call("f"), of(api.Frame, nop()), e, eval("no program"), let("y", sub(nop())))
	deep(t, 1, seq(all, all), nil, 14)
	deep(t, 1, of(api.Frame, all), api.ErrDeep, 3)
	deep(t, 2, of(api.Frame, all), nil, 8)
	deep(t, 1, seq(f, of(api.Frame, call("f"))), api.ErrDeep, 3)
	deep(t, 1, let("y", sub(of(api.Frame, nop()))), api.ErrDeep, 3)
	deep(t, 1, eval(`(eval (lit "(nop)"))`), api.ErrDeep, 2)
	deep(t, 1, eval(`(set "y" (sub (nop)))`), api.ErrDeep, 3)
	// A word's depth is not its neighbour's.
	deep(t, 1, show(sub(nop()), sub(nop()), of(api.Join, sub(nop()), sub(nop()))), nil, 5)
	deep(t, 1, of(api.Frame, sub(nop()), nop()), nil, 2)
	deep(t, 1, show(sub(show(sub(nop())))), api.ErrDeep, 4)
	r := seq(fun("r", of(api.Frame, call("r"))), call("r"))
	deep(t, api.MaxDepth, r, api.ErrDeep, 1+api.MaxDepth+1)
}

// Words are known, and a step is taken, ahead of going deeper.
func TestWordsAheadOfDepth(t *testing.T) {
	o := echoing()
	o.Depth = 0
	asked := 0
	o.Parse = func(string) ([]api.Node, error) { asked++; return nop(), nil }
	if r := result(t, eval("a"), some(), o); r.Err != api.ErrDeep || asked != 0 {
		t.Error(r.Err, asked)
	}
	o.Steps = 0
	for _, l := range [][]api.Node{eval("a"), of(api.Frame, nop())} {
		if r := result(t, l, some(), o); r.Err != api.ErrFuel {
			t.Error(spell.Print(l), r.Err)
		}
	}
	half := api.MaxString / 2
	o.Steps = 9
	if r := result(t, of(api.Eval, list(x(half), x(half))), some(), o); r.Err != api.ErrBig {
		t.Error(r.Err)
	}
	o.Depth = 1
	r := result(t, of(api.Frame, mark(), of(api.Frame, lit("a"), nop())), some(), o)
	if r.Err != api.ErrDeep || told(r.Trace) != marked {
		t.Error(r.Err, told(r.Trace))
	}
}

// P9.1: the end

// within is a command in the midst of whatever would be put back behind it.
func within(command []api.Node) []api.Node {
	inner := seq(let("w", lit("set")), call("put", "ahead"), command, let("w", lit("late")), call("put", "late"))
	inner = of(api.Frame, lit("arg"), here(lit("text"), inner))
	inner = pipe(call("true"), redir(2, "g", inner))
	inner = seq(local("v", lit("local"), redir(1, "f", inner)), call("put", "late"))
	return seq(fun("h", inner), of(api.Not, call("h")), call("put", "late"))
}

const withinTold = "dup1 open1(f) tube2 dup2 open2(g) dup1 g>ahead"

func TestNothingIsPutBack(t *testing.T) {
	failing := map[error][]api.Node{
		api.ErrFuel: of(api.While, nop(), nop()),
		api.ErrDeep: seq(fun("f", call("f")), call("f")),
		api.ErrBig:  let("z", of(api.Join, heavy(api.MaxString), lit("y"))),
		nil:         call("exit", "7"),
	}
	for bad, command := range failing {
		r := result(t, within(command), some(), with("", "A"))
		status := 0
		if bad == nil {
			status = 7
		}
		if r.Err != bad || r.Status != status || told(r.Trace) != withinTold || toldVars(r.Vars) != "v=(local) w=(set)" || toldFiles(r.Files) != "a.c:c f:one|two| g:ahead" {
			t.Errorf("%v: %v %d %s %s %s", bad, r.Err, r.Status, told(r.Trace), toldVars(r.Vars), toldFiles(r.Files))
		}
	}
	// Without any of these, all is put back.
	r := result(t, within(nop()), some(), with("", "A"))
	if r.Err != nil || told(r.Trace) != withinTold+" g>late close1 close2 close2 close1 >late >late" || toldVars(r.Vars) != "v=(p,q) w=(late)" {
		t.Error(r.Err, told(r.Trace), toldVars(r.Vars))
	}
}

func TestExit(t *testing.T) {
	a := call("put", "a")
	for _, exit := range []struct {
		args   []string
		status int
	}{{nil, 0}, {ls("0"), 0}, {ls("4"), 4}, {ls("255"), 255}, {ls("256"), 0}, {ls("x"), 0}, {ls("3", "4"), 3}} {
		end := call(append(ls("exit"), exit.args...)...)
		for _, l := range [][]api.Node{
			seq(end, a), of(api.Not, end), of(api.If, end, a, a), of(api.And, end, a), of(api.Or, end, a), of(api.While, end, a),
			of(api.While, nop(), end), each("i", get("v"), end), of(api.Case, lit("a"), live("a"), end), of(api.Frame, end),
			seq(fun("f", seq(end, a)), call("f"), a), of(api.Call, lit("put"), sub(end)), let("v", of(api.Join, sub(end), mark())),
			show(sub(seq(call("put", "caught"), end))), of(api.Case, sub(end), live("*"), a), of(api.Case, lit("a"), sub(end), a, live("*"), a),
			each("i", of(api.Cat, sub(end), lit("a")), a), of(api.Eval, sub(end)), node(api.Redir, 2, "", sub(end), a), here(sub(end), a),
			local("v", sub(end), a), of(api.Frame, sub(end), a),
		} {
			r := result(t, l, some(), with(""))
			if r.Status != exit.status || r.Err != nil || len(r.Trace) > 0 {
				t.Errorf("%s: %d %v %s", spell.Print(l), r.Status, r.Err, told(r.Trace))
			}
		}
	}
	ends(t, pipe(seq(call("put", "x"), call("exit", "2")), call("cat")), "tube2", 2, nil, 3)
	ends(t, pipe(call("put", "x"), call("exit", "2"), call("cat")), "tube3", 2, nil, 3)
	ends(t, pipe(call("put", "x"), call("exit", "2")), "tube2", 2, nil, 3)
	ends(t, seq(fun("exit", a), call("exit", "2")), ">a", 0, nil, 3)
	r := result(t, seq(eval(`(call (lit "exit") (lit "9"))`), a), some(), echoing())
	if r.Status != 9 || r.Err != nil || len(r.Trace) > 0 {
		t.Error(r)
	}
}

// P9.1: what may not be

// refused asks Run and Word of an error of the world or of the options.
func refused(t *testing.T, what string, w api.World, o Options, want error) {
	t.Helper()
	r, err := Run(nop(), w, o)
	if err != want || want != nil && !SameResult(r, api.Result{}) {
		t.Errorf("%s: Run: %v, not %v", what, err, want)
	}
	list, err := Word(lit("a"), w, o)
	if err != want || want != nil && len(list) > 0 {
		t.Errorf("%s: Word: %v, not %v", what, err, want)
	}
}

func TestOptions(t *testing.T) {
	const long = api.MaxString + 1
	vars := func(name string, l ...string) Options {
		return Options{Vars: []api.Value{{Name: "fine"}, {Name: name, L: l}, {Name: "fine", L: ls("1")}}}
	}
	for what, one := range map[string]struct {
		o    Options
		want error
	}{
		"nothing":               {Options{}, nil},
		"the defaults":          {Defaults(), nil},
		"steps below":           {Options{Steps: -1}, api.ErrNumber},
		"the least steps":       {Options{Steps: math.MinInt}, api.ErrNumber},
		"steps above":           {Options{Steps: api.MaxSteps + 1}, api.ErrNumber},
		"the most steps":        {Options{Steps: math.MaxInt}, api.ErrNumber},
		"depth below":           {Options{Depth: -1}, api.ErrNumber},
		"the least depth":       {Options{Depth: math.MinInt}, api.ErrNumber},
		"depth above":           {Options{Depth: api.MaxDepth + 1}, api.ErrNumber},
		"the most depth":        {Options{Depth: math.MaxInt}, api.ErrNumber},
		"as much heard":         {Options{In: x(api.MaxString)}, nil},
		"too much heard":        {Options{In: x(long)}, api.ErrBig},
		"as many arguments":     {Options{Args: xs(api.MaxList)}, nil},
		"too many arguments":    {Options{Args: xs(api.MaxList + 1)}, api.ErrBig},
		"as long an argument":   {Options{Args: ls("", x(api.MaxString))}, nil},
		"too long an argument":  {Options{Args: ls("", x(long))}, api.ErrBig},
		"as many items":         {vars("a", xs(api.MaxList)...), nil},
		"too many items":        {vars("a", xs(api.MaxList+1)...), api.ErrBig},
		"as long an item":       {vars("a", x(api.MaxString)), nil},
		"too long an item":      {vars("a", "", x(long)), api.ErrBig},
		"no name":               {vars(""), api.ErrBig},
		"the arguments' name":   {vars("*", "a"), api.ErrBig},
		"a number":              {vars("1a"), api.ErrBig},
		"a blank":               {vars("a "), api.ErrBig},
		"the longest name":      {vars(x(api.MaxName)), nil},
		"too long a name":       {vars(x(api.MaxName + 1)), api.ErrBig},
		"too big, then again":   {Options{Vars: []api.Value{{Name: "a", L: ls(x(long))}, {Name: "a"}}}, api.ErrBig},
		"many variables":        {Options{Vars: slices.Repeat([]api.Value{{Name: "a"}}, 5*api.MaxList)}, nil},
		"steps ahead of heard":  {Options{Steps: -1, In: x(long)}, api.ErrNumber},
		"depth ahead of a name": {Options{Depth: -1, Vars: []api.Value{{}}}, api.ErrNumber},
		"depth ahead of args":   {Options{Depth: 99, Args: xs(api.MaxList + 1)}, api.ErrNumber},
	} {
		refused(t, what, api.World{}, one.o, one.want)
	}
}

// The program goes ahead of the world, and that ahead of the options.
func TestErrorsInOrder(t *testing.T) {
	bad := Options{Steps: -1, In: x(api.MaxString + 1)}
	worlds := map[error]api.World{
		api.ErrMany:   {Files: make([]api.File, api.MaxFiles+1)},
		api.ErrName:   {Files: []api.File{{}}},
		api.ErrLong:   {Files: []api.File{{Name: "f", Data: x(api.MaxFile + 1)}}},
		api.ErrNumber: {Rows: []api.Row{{Name: "r", Status: 256}}},
	}
	for want, w := range worlds {
		refused(t, "world", w, Defaults(), want)
		refused(t, "world ahead of options", w, bad, want)
		if _, err := Run(nil, w, bad); err != api.ErrMany {
			t.Error(err)
		}
		r, err := Run(seq(nop(), lit("a")), w, bad)
		isAt(t, err, 2, api.ErrNode)
		if !SameResult(r, api.Result{}) {
			t.Error(r)
		}
		list, err := Word(of(api.Flat, nop()), w, bad)
		isAt(t, err, 1, api.ErrNode)
		if len(list) > 0 {
			t.Error(list)
		}
	}
	refused(t, "number ahead of big", api.World{}, bad, api.ErrNumber)
}

// isAt asks for an error around a place.
func isAt(t *testing.T, err error, pos int, want error) {
	t.Helper()
	var at *api.At
	if !errors.As(err, &at) || at.Pos != pos || at.Err != want || !errors.Is(err, want) {
		t.Errorf("%v, not %d: %v", err, pos, want)
	}
}

func TestProgramsThatMayNotBe(t *testing.T) {
	for pos, l := range map[int][]api.Node{
		0: lit("a"),
		1: of(api.Not, lit("a")),
		2: of(api.Call, lit("a"), nop()),
	} {
		_, err := Run(l, some(), Defaults())
		isAt(t, err, pos, api.ErrNode)
	}
	deep := nop()
	for range api.MaxNest {
		deep = of(api.Not, deep)
	}
	_, err := Run(deep, some(), Defaults())
	isAt(t, err, api.MaxNest, api.ErrNest)
	for _, l := range [][]api.Node{nil, {}, of(api.Seq, slices.Repeat([][]api.Node{nop()}, api.MaxNodes)...)} {
		if _, err := Run(l, some(), Defaults()); err != api.ErrMany {
			t.Error(err)
		}
	}
	if r := result(t, of(api.Seq, slices.Repeat([][]api.Node{nop()}, api.MaxNodes-1)...), some(), Defaults()); r.Err != nil {
		t.Error(r.Err)
	}
}

// A word's place is that of the program that has it, less one.
func TestWordsThatMayNotBe(t *testing.T) {
	for _, one := range []struct {
		l   []api.Node
		pos int
		bad error
	}{
		{nil, 0, api.ErrNode},
		{[]api.Node{}, 0, api.ErrNode},
		{make([]api.Node, 1), 0, api.ErrNode},
		{nop(), 0, api.ErrNode},
		{call("a"), 0, api.ErrNode},
		{let("a", lit("b")), 0, api.ErrNode},
		{get("1"), 0, api.ErrNode},
		{of(api.Join), 0, api.ErrNode},
		{of(api.Flat, nop()), 1, api.ErrNode},
		{of(api.Cat, lit("a"), lit("b"), sub(lit("c"))), 4, api.ErrNode},
		{of(api.Cat, lit("a"), node(api.Pick, 100, "", lit("b"))), 2, api.ErrNode},
		{append(lit("a"), lit("b")...), 0, api.ErrNode},
		{nested(api.MaxNest), api.MaxNest - 1, api.ErrNest},
		{of(api.Cat, lit("a"), nested(api.MaxNest-1)), api.MaxNest, api.ErrNest},
	} {
		list, err := Word(one.l, some(), Defaults())
		isAt(t, err, one.pos, one.bad)
		if len(list) > 0 {
			t.Error(list)
		}
	}
	makes(t, nested(api.MaxNest-1), "a")
	most := of(api.Cat, slices.Repeat([][]api.Node{list()}, api.MaxNodes-2)...)
	makes(t, most)
	if list, err := Word(of(api.Cat, slices.Repeat([][]api.Node{list()}, api.MaxNodes-1)...), some(), Defaults()); err != api.ErrMany || len(list) > 0 {
		t.Error(list, err)
	}
}

// nested is a word's tree so deep.
func nested(depth int) []api.Node {
	word := lit("a")
	for range depth - 1 {
		word = of(api.Flat, word)
	}
	return word
}

func TestWordsEnd(t *testing.T) {
	ended := func(word []api.Node, o Options, want error) {
		t.Helper()
		if list, err := Word(word, some(), o); err != want || len(list) > 0 {
			t.Errorf("%.300s: %q %v, not %v", spell.Print(word), list, err, want)
		}
	}
	for _, status := range ls("0", "1", "255") {
		end := sub(call("exit", status))
		for _, word := range [][]api.Node{end, of(api.Cat, lit("a"), end, lit("b")), of(api.Join, lit("a"), end), of(api.Count, end), of(api.Flat, end), node(api.Pick, 1, "", end)} {
			ended(word, Defaults(), nil)
		}
	}
	ended(sub(nop()), Options{Depth: 1}, api.ErrFuel)
	ended(of(api.Cat, lit("a"), sub(call("put", "b"))), Options{Depth: 1, Steps: 1}, api.ErrFuel)
	ended(sub(nop()), Options{Steps: 1}, api.ErrDeep)
	ended(of(api.Cat, lit("a"), of(api.Join, heavy(api.MaxString), lit("b"))), Defaults(), api.ErrBig)
	ended(sub(of(api.While, nop(), nop())), Defaults(), api.ErrFuel)
	if list, err := Word(get("*"), some(), Options{Args: ls("a")}); err != nil || !slices.Equal(list, ls("a")) {
		t.Error(list, err)
	}
}
