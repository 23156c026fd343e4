package world

import (
	"math"
	"reflect"
	"slices"
	"strings"
	"testing"

	"patois/api"
)

// l writes a list.
func l(items ...string) []string { return items }

// x is n bytes.
func x(n int) string { return strings.Repeat("x", n) }

// made is a kernel of a world that may be.
func made(t *testing.T, w api.World) *Kernel {
	t.Helper()
	k, err := New(w)
	if k == nil || err != nil {
		t.Fatal(k, err)
	}
	return k
}

// files is a world of files alone: names and data in turn.
func files(all ...string) api.World {
	var w api.World
	for i := 0; i < len(all); i += 2 {
		w.Files = append(w.Files, api.File{Name: all[i], Data: all[i+1]})
	}
	return w
}

// rows is a world of rows alone.
func rows(all ...api.Row) api.World { return api.World{Rows: all} }

// asks holds all that was asked of k against want.
func asks(t *testing.T, k *Kernel, want ...api.Event) {
	t.Helper()
	got := k.Trace()
	if len(got) != len(want) || k.Len() != len(want) {
		t.Fatalf("%d events, Len %d, not %d: %.300v", len(got), k.Len(), len(want), got)
	}
	for i := range want {
		// Lists apart, as nil and the empty one are the same.
		if !slices.Equal(got[i].L, want[i].L) {
			t.Errorf("event %d: list %.100q, not %.100q", i, got[i].L, want[i].L)
		}
		g, e := got[i], want[i]
		g.L, e.L = nil, nil
		if !reflect.DeepEqual(g, e) {
			t.Errorf("event %d: %.200v, not %.200v", i, g, e)
		}
	}
}

// holds holds k's files against want: names and data in turn.
func holds(t *testing.T, k *Kernel, want ...string) {
	t.Helper()
	w := files(want...)
	if got := k.Files(); !slices.Equal(got, w.Files) {
		t.Errorf("Files: %.300q, not %.300q", got, w.Files)
	}
	var names []string
	for _, f := range w.Files {
		names = append(names, f.Name)
	}
	if got := k.Names(); !slices.Equal(got, names) {
		t.Errorf("Names: %.300q, not %.300q", got, names)
	}
}

// opened answers a check of what Open answers.
func opened(t *testing.T, data string, is bool) func(string, bool) {
	return func(got string, gotIs bool) {
		t.Helper()
		if got != data || gotIs != is {
			t.Errorf("%.100q, %v, not %.100q, %v", got, gotIs, data, is)
		}
	}
}

// said answers a check of what Exec answers.
func said(t *testing.T, out string, status int, is bool) func(string, int, bool) {
	return func(got string, gotStatus int, gotIs bool) {
		t.Helper()
		if got != out || gotStatus != status || gotIs != is {
			t.Errorf("%.100q, %d, %v, not %.100q, %d, %v", got, gotStatus, gotIs, out, status, is)
		}
	}
}

// P4.1

// with is a row that may be, but for what change makes of it.
func with(change func(*api.Row)) api.Row {
	r := api.Row{Name: "r", Args: l("a"), Out: "o", Status: 1}
	change(&r)
	return r
}

// numbered is n files of different names.
func numbered(n int) []api.File {
	var all []api.File
	for i := range n {
		all = append(all, api.File{Name: x(i + 1)})
	}
	return all
}

func TestMay(t *testing.T) {
	full := rows(slices.Repeat([]api.Row{{
		Name: x(api.MaxString), Args: slices.Repeat(l(x(api.MaxString)), api.MaxList),
		Any: true, Reads: true, Copy: true, Out: x(api.MaxString), Status: 255,
	}}, api.MaxFiles)...)
	full.Files = numbered(api.MaxFiles)
	for what, w := range map[string]api.World{
		"nothing":                   {},
		"empty lists":               {Files: []api.File{}, Rows: []api.Row{}},
		"a file without data":       files("f", ""),
		"a file":                    files("f", "data"),
		"as much data as may be":    files("f", x(api.MaxFile), "g", x(api.MaxFile)),
		"the longest name":          files(x(api.MaxString), "", x(api.MaxString-1), ""),
		"names of any bytes":        files(".", "", "..", "", "a b\n", "", "\xff\x00", "", "/", "", "*", "", "1", "", "A", "", "a", ""),
		"a name that another has":   {Files: []api.File{{Name: "up"}}, Rows: []api.Row{{Name: "up"}}},
		"the same row again":        rows(api.Row{Name: "r"}, api.Row{Name: "r"}),
		"a row's name of any bytes": rows(api.Row{Name: " "}, api.Row{Name: "\x00"}),
		"the least status":          rows(with(func(r *api.Row) { r.Status = 0 })),
		"the greatest status":       rows(with(func(r *api.Row) { r.Status = 255 })),
		"Unknown as a status":       rows(with(func(r *api.Row) { r.Status = api.Unknown })),
		"empty arguments":           rows(with(func(r *api.Row) { r.Args = slices.Repeat(l(""), api.MaxList) })),
		"Any with arguments":        rows(with(func(r *api.Row) { r.Any = true })),
		"all that may be":           full,
	} {
		if err := May(w); err != nil {
			t.Errorf("%s: %v", what, err)
		}
		if k, err := New(w); k == nil || err != nil {
			t.Errorf("%s: New: %v, %v", what, k, err)
		}
	}
}

func TestMayNot(t *testing.T) {
	const long, big = api.MaxString + 1, api.MaxFile + 1
	for what, one := range map[string]struct {
		w    api.World
		want error
	}{
		"too many files":          {api.World{Files: numbered(api.MaxFiles + 1)}, api.ErrMany},
		"too many rows":           {rows(slices.Repeat([]api.Row{{Name: "r"}}, api.MaxFiles+1)...), api.ErrMany},
		"too many arguments":      {rows(with(func(r *api.Row) { r.Args = make([]string, api.MaxList+1) })), api.ErrMany},
		"too many, though Any":    {rows(with(func(r *api.Row) { r.Any, r.Args = true, make([]string, api.MaxList+1) })), api.ErrMany},
		"too many of the last":    {rows(api.Row{Name: "r"}, api.Row{Name: "r", Args: make([]string, api.MaxList+1)}), api.ErrMany},
		"a file without a name":   {files("", "data"), api.ErrName},
		"the last without a name": {files("f", "", "g", "", "", ""), api.ErrName},
		"a file's name too long":  {files(x(long), ""), api.ErrName},
		"a name's bytes, not runes": {
			files(strings.Repeat("é", api.MaxString/2)+"a", ""), api.ErrName},
		"a name again":         {files("f", "1", "f", "2"), api.ErrName},
		"a name again, later":  {files("f", "", "g", "", "h", "", "f", ""), api.ErrName},
		"a long name again":    {files(x(api.MaxString), "", "f", "", x(api.MaxString), ""), api.ErrName},
		"data too long":        {files("f", x(big)), api.ErrLong},
		"the last's too long":  {files("f", "", "g", x(big)), api.ErrLong},
		"a row without a name": {rows(api.Row{Out: "o"}), api.ErrName},
		"a row's name too long": {
			rows(with(func(r *api.Row) { r.Name = x(long) })), api.ErrName},
		"Out too long":             {rows(with(func(r *api.Row) { r.Out = x(long) })), api.ErrLong},
		"an argument too long":     {rows(with(func(r *api.Row) { r.Args = l("", x(long)) })), api.ErrLong},
		"one too long, though Any": {rows(with(func(r *api.Row) { r.Any, r.Args = true, l(x(long)) })), api.ErrLong},
		"a status below":           {rows(with(func(r *api.Row) { r.Status = -1 })), api.ErrNumber},
		"a status above":           {rows(with(func(r *api.Row) { r.Status = 256 })), api.ErrNumber},
		"the least int":            {rows(with(func(r *api.Row) { r.Status = math.MinInt })), api.ErrNumber},
		"the greatest int":         {rows(with(func(r *api.Row) { r.Status = math.MaxInt })), api.ErrNumber},
		"the last row's":           {rows(api.Row{Name: "r"}, api.Row{Name: "r", Status: 256}), api.ErrNumber},
	} {
		refused(t, what, one.w, one.want)
	}
}

// refused holds May and New of w against an error.
func refused(t *testing.T, what string, w api.World, want error) {
	t.Helper()
	if err := May(w); err != want {
		t.Errorf("%s: %v, not %v", what, err, want)
	}
	if k, err := New(w); k != nil || err != want {
		t.Errorf("%s: New: %v, %v, not %v", what, k, err, want)
	}
}

// Each fault goes ahead of all behind it: many, then file by file, then row by
// row, and within each its name ahead of its length ahead of its number.
func TestMayInOrder(t *testing.T) {
	const long, big = api.MaxString + 1, api.MaxFile + 1
	fileFaults := []struct {
		f    api.File
		want error
	}{
		{api.File{Data: x(big)}, api.ErrName},
		{api.File{Name: x(long), Data: x(big)}, api.ErrName},
		{api.File{Name: "fine", Data: x(big)}, api.ErrName},
		{api.File{Name: "f", Data: x(big)}, api.ErrLong},
	}
	rowFaults := []struct {
		r    api.Row
		want error
	}{
		{api.Row{Out: x(long), Status: -1}, api.ErrName},
		{api.Row{Name: x(long), Args: l(x(long)), Status: -1}, api.ErrName},
		{api.Row{Name: "r", Out: x(long), Status: -1}, api.ErrLong},
		{api.Row{Name: "r", Args: l(x(long)), Status: 256}, api.ErrLong},
		{api.Row{Name: "r", Status: 256}, api.ErrNumber},
	}
	fine, good := api.File{Name: "fine"}, api.Row{Name: "good"}
	for i, a := range fileFaults {
		for j, b := range rowFaults {
			w := api.World{Files: []api.File{fine, a.f}, Rows: []api.Row{b.r}}
			refused(t, "a file ahead of a row", w, a.want)
			refused(t, "many ahead of all", api.World{Files: w.Files, Rows: slices.Repeat(w.Rows, api.MaxFiles+1)}, api.ErrMany)
			refused(t, "many ahead of all", api.World{Files: slices.Repeat(w.Files, api.MaxFiles), Rows: w.Rows}, api.ErrMany)
			many := api.Row{Name: "r", Args: make([]string, api.MaxList+1)}
			refused(t, "many ahead of all", api.World{Files: w.Files, Rows: append(w.Rows, many)}, api.ErrMany)
			refused(t, "the first file", files("fine", "", a.f.Name, a.f.Data, fileFaults[(i+1)%4].f.Name, x(big)), a.want)
			refused(t, "the first row", rows(good, b.r, rowFaults[(j+1)%5].r), b.want)
		}
	}
}

func TestNewIsAskedNothing(t *testing.T) {
	w := files("b", "2", "a", "1")
	w.Rows = []api.Row{{Name: "r", Any: true}}
	k := made(t, w)
	asks(t, k)
	holds(t, k, "a", "1", "b", "2")
	asks(t, made(t, api.World{}))
	holds(t, made(t, api.World{}))
	// Two kernels of one world know nothing of each other.
	other := made(t, w)
	k.Write("a", "x")
	k.Exec("r", "")
	asks(t, other)
	holds(t, other, "a", "1", "b", "2")
}

// P4.2

func TestExec(t *testing.T) {
	k := made(t, rows(
		api.Row{Name: "up", Args: l("b"), Out: "only b", Status: 7},
		api.Row{Name: "up", Any: true, Reads: true, Copy: true, Out: ":", Status: 3},
		api.Row{Name: "up", Args: l("c"), Out: "never"},
		api.Row{Name: "none", Out: "of none"},
		api.Row{Name: "none", Args: l(""), Out: "of one empty", Status: 255},
		api.Row{Name: "two", Args: l("a", "b"), Reads: true, Out: "two"},
		api.Row{Name: "quiet", Any: true, Args: l("z")},
	))
	said(t, ":hi", 3, true)(k.Exec("up", "hi", "a"))
	said(t, "only b", 7, true)(k.Exec("up", "hi", "b"))
	said(t, ":hi", 3, true)(k.Exec("up", "hi", "c"))
	said(t, ":", 3, true)(k.Exec("up", ""))
	said(t, "of none", 0, true)(k.Exec("none", "hi"))
	said(t, "of one empty", 255, true)(k.Exec("none", "hi", ""))
	said(t, "two", 0, true)(k.Exec("two", "hi", "a", "b"))
	said(t, "", 0, true)(k.Exec("quiet", "hi"))
	said(t, "", 0, true)(k.Exec("quiet", "hi", "a", "b"))
	asks(t, k,
		api.Event{Kind: api.Exec, N: 3, A: "up", B: "hi", L: l("a")},
		api.Event{Kind: api.Exec, N: 7, A: "up", L: l("b")},
		api.Event{Kind: api.Exec, N: 3, A: "up", B: "hi", L: l("c")},
		api.Event{Kind: api.Exec, N: 3, A: "up"},
		api.Event{Kind: api.Exec, A: "none"},
		api.Event{Kind: api.Exec, N: 255, A: "none", L: l("")},
		api.Event{Kind: api.Exec, A: "two", B: "hi", L: l("a", "b")},
		api.Event{Kind: api.Exec, A: "quiet"},
		api.Event{Kind: api.Exec, A: "quiet", L: l("a", "b")},
	)
	holds(t, k)
}

func TestExecOfNone(t *testing.T) {
	k := made(t, rows(api.Row{Name: "two", Args: l("a", "b"), Reads: true, Copy: true, Out: "o"}, api.Row{Name: "bare", Reads: true, Out: "o"}))
	var want []api.Event
	for _, one := range []struct {
		name string
		args []string
	}{
		{"no", nil}, {"no", l("a", "b")}, {"", nil}, {"", l("a", "b")}, {"Two", l("a", "b")}, {"tw", l("a", "b")}, {"two ", l("a", "b")},
		{"two", nil}, {"two", l("a")}, {"two", l("b", "a")}, {"two", l("a", "b", "")}, {"two", l("a", "b", "a", "b")}, {"two", l("ab")}, {"two", l("a b")}, {"two", l("a", "B")},
		{"bare", l("")}, {"bare", l("a")}, {x(api.MaxString + 1), slices.Repeat(l(x(api.MaxString+1)), api.MaxList+1)},
	} {
		said(t, "", api.Unknown, false)(k.Exec(one.name, "hi", one.args...))
		if k.Reads(one.name, one.args...) {
			t.Errorf("%.50q reads", one.name)
		}
		want = append(want, api.Event{Kind: api.Exec, N: api.Unknown, A: one.name, L: one.args})
	}
	asks(t, k, want...)
	empty := made(t, api.World{})
	said(t, "", api.Unknown, false)(empty.Exec("two", "hi", "a", "b"))
	asks(t, empty, api.Event{Kind: api.Exec, N: api.Unknown, A: "two", L: l("a", "b")})
}

// Each of Reads, Copy and Any does its own, beside whatever the others do.
func TestExecByItsFlags(t *testing.T) {
	yes := []bool{false, true}
	for _, reads := range yes {
		for _, copies := range yes {
			for _, anyArgs := range yes {
				k := made(t, rows(api.Row{Name: "r", Args: l("a"), Reads: reads, Copy: copies, Any: anyArgs, Out: "o", Status: 9}))
				out, heard := "o", ""
				if copies {
					out = "oin"
				}
				if reads {
					heard = "in"
				}
				said(t, out, 9, true)(k.Exec("r", "in", "a"))
				want := []api.Event{{Kind: api.Exec, N: 9, A: "r", B: heard, L: l("a")}}
				if anyArgs {
					said(t, out, 9, true)(k.Exec("r", "in", "b"))
					want = append(want, api.Event{Kind: api.Exec, N: 9, A: "r", B: heard, L: l("b")})
				} else {
					said(t, "", api.Unknown, false)(k.Exec("r", "in", "b"))
					want = append(want, api.Event{Kind: api.Exec, N: api.Unknown, A: "r", L: l("b")})
				}
				if k.Reads("r", "a") != reads || k.Reads("r", "b") != (reads && anyArgs) {
					t.Error("Reads", reads, copies, anyArgs)
				}
				asks(t, k, want...)
			}
		}
	}
}

// A row that is Unknown itself is one all the same.
func TestExecOfAnUnknownStatus(t *testing.T) {
	k := made(t, rows(api.Row{Name: "r", Reads: true, Out: "o", Status: api.Unknown}))
	said(t, "o", api.Unknown, true)(k.Exec("r", "in"))
	asks(t, k, api.Event{Kind: api.Exec, N: api.Unknown, A: "r", B: "in"})
}

// What a command hears, and so says, has no bound.
func TestExecOfMuch(t *testing.T) {
	k := made(t, rows(api.Row{Name: "cat", Any: true, Reads: true, Copy: true, Out: x(api.MaxString)}))
	in, args := x(1<<20), slices.Repeat(l("a"), 1<<12)
	said(t, x(api.MaxString+1<<20), 0, true)(k.Exec("cat", in, args...))
	asks(t, k, api.Event{Kind: api.Exec, A: "cat", B: in, L: args})
}

func TestReads(t *testing.T) {
	k := made(t, rows(
		api.Row{Name: "r", Args: l("deaf")},
		api.Row{Name: "r", Args: l("a"), Reads: true},
		api.Row{Name: "r", Args: l("a")},
		api.Row{Name: "r", Args: l("copy"), Copy: true},
		api.Row{Name: "s", Any: true},
		api.Row{Name: "s", Args: l("a"), Reads: true},
		api.Row{Name: "n", Reads: true},
	))
	for _, one := range []struct {
		name string
		args []string
		want bool
	}{
		{"r", l("deaf"), false}, {"r", l("a"), true}, {"r", l("copy"), false}, {"r", nil, false}, {"r", l("a", "a"), false},
		{"s", l("a"), false}, {"s", nil, false}, {"n", nil, true}, {"n", l(), true}, {"n", l(""), false}, {"", nil, false}, {"no", l("a"), false},
	} {
		if got := k.Reads(one.name, one.args...); got != one.want {
			t.Errorf("Reads(%q, %q): %v", one.name, one.args, got)
		}
	}
	asks(t, k)
}

// P4.3

func TestOpenToBeHeard(t *testing.T) {
	k := made(t, files("f", "x", "e", "", "big", x(api.MaxFile)))
	opened(t, "x", true)(k.Open("f", 1))
	opened(t, "x", true)(k.Open("f", 1))
	opened(t, "", true)(k.Open("e", 1))
	opened(t, x(api.MaxFile), true)(k.Open("big", 1))
	opened(t, "", false)(k.Open("g", 1))
	opened(t, "", false)(k.Open("F", 1))
	opened(t, "", false)(k.Open("", 1))
	opened(t, "", false)(k.Open(x(api.MaxString+1), 1))
	asks(t, k,
		api.Event{Kind: api.Open, N: 1, A: "f"}, api.Event{Kind: api.Open, N: 1, A: "f"},
		api.Event{Kind: api.Open, N: 1, A: "e"}, api.Event{Kind: api.Open, N: 1, A: "big"},
		api.Event{Kind: api.Open, N: 4, A: "g"}, api.Event{Kind: api.Open, N: 4, A: "F"},
		api.Event{Kind: api.Open, N: 4}, api.Event{Kind: api.Open, N: 4, A: x(api.MaxString + 1)},
	)
	holds(t, k, "big", x(api.MaxFile), "e", "", "f", "x")
}

func TestOpenAnew(t *testing.T) {
	k := made(t, files("f", "x"))
	opened(t, "", true)(k.Open("f", 2))
	holds(t, k, "f", "")
	opened(t, "", true)(k.Open("g", 2))
	holds(t, k, "f", "", "g", "")
	opened(t, "", true)(k.Open("f", 1))
	k.Write("g", "y")
	opened(t, "", true)(k.Open("g", 2))
	holds(t, k, "f", "", "g", "")
	asks(t, k,
		api.Event{Kind: api.Open, N: 2, A: "f"}, api.Event{Kind: api.Open, N: 2, A: "g"}, api.Event{Kind: api.Open, N: 1, A: "f"},
		api.Event{Kind: api.Write, A: "g", B: "y"}, api.Event{Kind: api.Open, N: 2, A: "g"},
	)
}

func TestOpenToBeAddedTo(t *testing.T) {
	k := made(t, files("f", "x"))
	opened(t, "", true)(k.Open("f", 3))
	holds(t, k, "f", "x")
	opened(t, "", true)(k.Open("g", 3))
	holds(t, k, "f", "x", "g", "")
	opened(t, "", true)(k.Open("g", 1))
	k.Write("g", "y")
	opened(t, "", true)(k.Open("g", 3))
	k.Write("g", "z")
	holds(t, k, "f", "x", "g", "yz")
	asks(t, k,
		api.Event{Kind: api.Open, N: 3, A: "f"}, api.Event{Kind: api.Open, N: 3, A: "g"}, api.Event{Kind: api.Open, N: 1, A: "g"},
		api.Event{Kind: api.Write, A: "g", B: "y"}, api.Event{Kind: api.Open, N: 3, A: "g"}, api.Event{Kind: api.Write, A: "g", B: "z"},
	)
}

func TestOpenInAnotherMode(t *testing.T) {
	k := made(t, files("f", "x"))
	for _, mode := range []int{0, 4, 5, -1, -2, 1 << 32, 1<<32 + 1, math.MinInt, math.MaxInt} {
		for _, file := range l("f", "g", "") {
			opened(t, "", false)(k.Open(file, mode))
		}
	}
	asks(t, k)
	holds(t, k, "f", "x")
}

// There may be more files then than a world begins with, of any name.
func TestOpenOfMany(t *testing.T) {
	k := made(t, api.World{Files: numbered(api.MaxFiles)})
	for i := range 3 * api.MaxFiles {
		opened(t, "", true)(k.Open("y"+x(i), 2+i%2))
	}
	if err := k.Write("z", "z"); err != nil || len(k.Names()) != 4*api.MaxFiles+1 || k.Len() != 3*api.MaxFiles+1 {
		t.Error(err, len(k.Names()), k.Len())
	}
	long := made(t, api.World{})
	opened(t, "", true)(long.Open(x(api.MaxString+1), 2))
	opened(t, "", true)(long.Open("", 3))
	holds(t, long, "", "", x(api.MaxString+1), "")
}

func TestWrite(t *testing.T) {
	k := made(t, files("f", "x"))
	writes(t, k, nil, "f", "y", "f", "\n\x00\xff", "g", "new", "", "out", "g", "er", "", "out")
	holds(t, k, "f", "xy\n\x00\xff", "g", "newer")
	opened(t, "newer", true)(k.Open("g", 1))
	asks(t, k,
		api.Event{Kind: api.Write, A: "f", B: "y"}, api.Event{Kind: api.Write, A: "f", B: "\n\x00\xff"}, api.Event{Kind: api.Write, A: "g", B: "new"},
		api.Event{Kind: api.Write, B: "out"}, api.Event{Kind: api.Write, A: "g", B: "er"}, api.Event{Kind: api.Write, B: "out"},
		api.Event{Kind: api.Open, N: 1, A: "g"},
	)
}

func TestWriteOfNoData(t *testing.T) {
	k := made(t, files("f", "x", "big", x(api.MaxFile)))
	writes(t, k, nil, "f", "", "big", "", "g", "", "", "", x(api.MaxString+1), "")
	asks(t, k)
	holds(t, k, "big", x(api.MaxFile), "f", "x")
}

// writes asks k to write, a file and data in turn, and holds each answer against want.
func writes(t *testing.T, k *Kernel, want error, all ...string) {
	t.Helper()
	for i := 0; i < len(all); i += 2 {
		if err := k.Write(all[i], all[i+1]); err != want {
			t.Errorf("%.20q, %d bytes: %v, not %v", all[i], len(all[i+1]), err, want)
		}
	}
}

func TestWriteAtItsBounds(t *testing.T) {
	k := made(t, files("big", x(api.MaxFile), "f", "x"))
	writes(t, k, api.ErrBig, "big", "y", "f", x(api.MaxFile), "g", x(api.MaxFile+1), "g", x(1<<24))
	asks(t, k)
	holds(t, k, "big", x(api.MaxFile), "f", "x")
	writes(t, k, nil, "f", x(api.MaxFile-1), "g", x(api.MaxFile), "", x(api.MaxFile+1), "", x(1<<20))
	if k.Len() != 4 {
		t.Error(k.Len())
	}
	holds(t, k, "big", x(api.MaxFile), "f", x(api.MaxFile), "g", x(api.MaxFile))
	// Emptied, it takes as much again.
	k.Open("big", 2)
	writes(t, k, nil, "big", x(api.MaxFile))
	writes(t, k, api.ErrBig, "big", "y")
}

// What is said to the outside never is a file's, though there be one of no name.
func TestWriteToTheOutsideIsNoFiles(t *testing.T) {
	k := made(t, api.World{})
	opened(t, "", true)(k.Open("", 2))
	if err := k.Write("", "out"); err != nil {
		t.Error(err)
	}
	opened(t, "", true)(k.Open("", 1))
	holds(t, k, "", "")
	asks(t, k, api.Event{Kind: api.Open, N: 2}, api.Event{Kind: api.Write, B: "out"}, api.Event{Kind: api.Open, N: 1})
}

func TestMark(t *testing.T) {
	k := made(t, files("f", "x"))
	numbers := []int{0, 1, -2, math.MaxInt, math.MinInt}
	var want []api.Event
	for _, kind := range []int{api.Tube, api.Dup, api.Close, 0, api.Exec, api.Open, api.Write, 7, -1, -4, 1<<32 + 4, math.MinInt, math.MaxInt, api.Nop} {
		for _, n := range numbers {
			k.Mark(kind, n)
			if 4 <= kind && kind <= 6 {
				want = append(want, api.Event{Kind: kind, N: n})
			}
		}
	}
	asks(t, k, want...)
	holds(t, k, "f", "x")
}

// P4.4

func TestNamesAndFilesRise(t *testing.T) {
	k := made(t, files("b", "2", "B", "3", "\xff", "4", "ab", "5", "a", "1", "é", "6", "a\x00", "7"))
	holds(t, k, "B", "3", "a", "1", "a\x00", "7", "ab", "5", "b", "2", "é", "6", "\xff", "4")
	k.Write("aa", "new")
	k.Open("0", 3)
	holds(t, k, "0", "", "B", "3", "a", "1", "a\x00", "7", "aa", "new", "ab", "5", "b", "2", "é", "6", "\xff", "4")
	asks(t, k, api.Event{Kind: api.Write, A: "aa", B: "new"}, api.Event{Kind: api.Open, N: 3, A: "0"})
	// Asking for them is not asked of the world.
	if k.Names(); k.Len() != 2 {
		t.Error(k.Len())
	}
}

// step is something that is asked of a kernel, and the same of the model.
type step struct {
	file, data string
	mode       int
}

// model is the chapter's words on files: a list of them, as they came to be.
type model struct {
	files  []api.File
	events []api.Event
}

func (m *model) at(file string) int {
	return slices.IndexFunc(m.files, func(f api.File) bool { return f.Name == file })
}

func (m *model) make(file string) *api.File {
	if m.at(file) < 0 {
		m.files = append(m.files, api.File{Name: file})
	}
	return &m.files[m.at(file)]
}

func (m *model) open(file string, mode int) (string, bool) {
	is, data := true, ""
	switch mode {
	case 1:
		if is = m.at(file) >= 0; !is {
			mode = 4
		} else {
			data = m.files[m.at(file)].Data
		}
	case 2:
		m.make(file).Data = ""
	case 3:
		m.make(file)
	default:
		return "", false
	}
	m.events = append(m.events, api.Event{Kind: api.Open, N: mode, A: file})
	return data, is
}

func (m *model) write(file, data string) error {
	switch {
	case data == "":
		return nil
	case file != "":
		has := 0
		if m.at(file) >= 0 {
			has = len(m.files[m.at(file)].Data)
		}
		if has+len(data) > api.MaxFile {
			return api.ErrBig
		}
		m.make(file).Data += data
	}
	m.events = append(m.events, api.Event{Kind: api.Write, A: file, B: data})
	return nil
}

// both asks the step of the kernel and of the model: mode -1 is a Write.
func (s step) both(t *testing.T, k *Kernel, m *model) {
	t.Helper()
	if s.mode >= 0 {
		data, is := m.open(s.file, s.mode)
		opened(t, data, is)(k.Open(s.file, s.mode))
	} else if got, want := k.Write(s.file, s.data), m.write(s.file, s.data); got != want {
		t.Errorf("%.100v: %v, not %v", s, got, want)
	}
}

// All short runs of steps leave the files and the events that the model has.
func TestAsTheModel(t *testing.T) {
	w := files("f", "x")
	steps := []step{
		{file: "f", mode: 1}, {file: "f", mode: 2}, {file: "f", mode: 3}, {file: "f", mode: 4},
		{file: "a", mode: 1}, {file: "a", mode: 2}, {file: "a", mode: 3}, {file: "", mode: 3},
		{file: "f", data: "y", mode: -1}, {file: "a", data: "y", mode: -1}, {file: "a", data: x(api.MaxFile), mode: -1},
		{file: "", data: "out", mode: -1}, {file: "a", mode: -1},
	}
	var all func(run []step, n int)
	all = func(run []step, n int) {
		k, m := made(t, w), &model{files: slices.Clone(w.Files)}
		for _, s := range run {
			s.both(t, k, m)
		}
		slices.SortFunc(m.files, func(a, b api.File) int { return strings.Compare(a.Name, b.Name) })
		if !slices.Equal(k.Files(), m.files) {
			t.Fatalf("%.300v: %.100q, not %.100q", run, k.Files(), m.files)
		}
		asks(t, k, m.events...)
		for _, s := range steps {
			if n > 0 {
				all(append(slices.Clone(run), s), n-1)
			}
		}
	}
	all(nil, 4)
}

// P4.5

// someEvents is events each of which differs from each other one.
func someEvents() []api.Event {
	return []api.Event{
		{}, {Kind: api.Exec}, {Kind: api.Exec, A: "a"}, {Kind: api.Exec, A: "a", N: 1}, {Kind: api.Exec, A: "a", B: "b"},
		{Kind: api.Exec, B: "a"}, {Kind: api.Exec, A: "a", L: l("")}, {Kind: api.Exec, A: "a", L: l("x")}, {Kind: api.Exec, A: "a", L: l("x", "y")},
		{Kind: api.Exec, A: "a", L: l("y", "x")}, {Kind: api.Exec, A: "a", L: l("xy")}, {Kind: api.Open, A: "a", N: 1}, {Kind: api.Write, A: "a", B: "b"},
		{Kind: api.Tube, N: 2}, {Kind: api.Dup, N: 1}, {Kind: api.Close, N: 1}, {Kind: api.Close, N: -1}, {Kind: -1}, {Kind: 7, L: l("x")},
	}
}

func TestErase(t *testing.T) {
	all := someEvents()
	got := Erase(all)
	if want := append(all[:13:13], all[17:]...); !SameEvents(got, want) {
		t.Errorf("%v, not %v", got, want)
	}
	if !SameEvents(Erase(got), got) {
		t.Error("again:", Erase(got))
	}
	for _, kind := range []int{api.Tube, api.Dup, api.Close} {
		mark := api.Event{Kind: kind, N: 1, A: "a", B: "b", L: l("x")}
		if got := Erase([]api.Event{mark, mark}); len(got) != 0 {
			t.Error("marks alone:", got)
		}
		if got := Erase([]api.Event{mark, all[2], mark, mark, all[3], mark}); !SameEvents(got, all[2:4]) {
			t.Error("marks between:", got)
		}
	}
	if len(Erase(nil)) != 0 || len(Erase([]api.Event{})) != 0 {
		t.Error("none")
	}
}

func TestSameEvents(t *testing.T) {
	all := someEvents()
	for i, a := range all {
		for j, b := range all {
			a.L, b.L = slices.Clone(a.L), slices.Clone(b.L)
			if got := SameEvents([]api.Event{a}, []api.Event{b}); got != (i == j) {
				t.Errorf("SameEvents of %v and %v: %v", a, b, got)
			}
			if got := SameEvents([]api.Event{all[2], a, all[2]}, []api.Event{all[2], b, all[2]}); got != (i == j) {
				t.Errorf("SameEvents of %v and %v in the middle: %v", a, b, got)
			}
		}
	}
	for n := range all {
		for m := range all {
			if got := SameEvents(all[:n], all[:m]); got != (n == m) {
				t.Errorf("SameEvents of %d and %d: %v", n, m, got)
			}
		}
	}
	if !SameEvents(nil, []api.Event{}) || !SameEvents(nil, nil) || SameEvents(nil, all[:1]) || SameEvents(all[:1], nil) {
		t.Error("none")
	}
	if !SameEvents([]api.Event{{L: l()}}, []api.Event{{}}) {
		t.Error("a list of none, and nil")
	}
}

func TestBegins(t *testing.T) {
	all := someEvents()
	for n := range len(all) + 1 {
		for m := range len(all) + 1 {
			if got := Begins(all[:n], all[:m]); got != (n <= m) {
				t.Errorf("Begins of %d and %d: %v", n, m, got)
			}
		}
		if n > 0 && Begins(all[n-1:n], append([]api.Event{{Kind: 8}}, all...)) {
			t.Error("it only has it:", n)
		}
	}
	for i := range all {
		other := slices.Clone(all)
		other[i].A += "!"
		for n := range len(all) + 1 {
			if got := Begins(other[:n], all); got != (n <= i) {
				t.Errorf("Begins of %d, other at %d: %v", n, i, got)
			}
		}
	}
	if !Begins(nil, nil) || !Begins(nil, []api.Event{}) || !Begins([]api.Event{}, nil) || Begins(all[:1], nil) {
		t.Error("none")
	}
}

// P4.6

// hidden is a list with items behind its length.
func hidden(items ...string) []string {
	return append(items, "hidden", "hidden")[:len(items)]
}

// spoil writes over a list and all of its spare room.
func spoil[T any](list []T, with T) {
	all := list[:cap(list)]
	for i := range all {
		all[i] = with
	}
}

// spoilEvents writes over events, and over the list of each.
func spoilEvents(events []api.Event) {
	for _, e := range events {
		spoil(e.L, "spoiled")
	}
	spoil(events, api.Event{Kind: api.Exec, A: "spoiled"})
}

// A kernel keeps nothing of the world that it is made of.
func TestTheWorldIsNotKept(t *testing.T) {
	w := api.World{
		Files: append(make([]api.File, 0, 8), api.File{Name: "f", Data: "x"}),
		Rows:  append(make([]api.Row, 0, 8), api.Row{Name: "r", Args: hidden("a", "b"), Out: "o"}),
	}
	args := w.Rows[0].Args
	k := made(t, w)
	k.Open("f", 2)
	k.Write("f", "y")
	k.Open("g", 2)
	k.Exec("r", "", "a", "b")
	if w.Files[0].Data != "x" || !slices.Equal(args[:4], l("a", "b", "hidden", "hidden")) || w.Files[:8][1].Name != "" || w.Rows[:8][1].Name != "" {
		t.Error("changed:", w.Files[:8], args[:4])
	}
	spoil(args, "spoiled")
	spoil(w.Files, api.File{Name: "spoiled"})
	spoil(w.Rows, api.Row{Name: "spoiled"})
	said(t, "o", 0, true)(k.Exec("r", "", "a", "b"))
	said(t, "", api.Unknown, false)(k.Exec("r", "", "spoiled", "spoiled"))
	holds(t, k, "f", "y", "g", "")
}

// A refused world, too, stays as it was.
func TestARefusedWorldStays(t *testing.T) {
	w := files("f", "x", "f", "y")
	w.Rows = []api.Row{{Name: "r", Args: hidden("a")}}
	refused(t, "a name again", w, api.ErrName)
	if !slices.Equal(w.Files, files("f", "x", "f", "y").Files) || !slices.Equal(w.Rows[0].Args[:3], l("a", "hidden", "hidden")) {
		t.Error(w)
	}
}

// A kernel keeps nothing of the arguments that come to it.
func TestArgumentsAreNotKept(t *testing.T) {
	for what, w := range map[string]api.World{"a row": rows(api.Row{Name: "r", Any: true, Reads: true}), "no row": {}} {
		k := made(t, w)
		args := hidden("a", "b")
		k.Exec("r", "in", args...)
		k.Reads("r", args...)
		if !slices.Equal(args[:4], l("a", "b", "hidden", "hidden")) {
			t.Error(what, "changed:", args[:4])
		}
		spoil(args, "spoiled")
		if got := k.Trace()[0].L; !slices.Equal(got, l("a", "b")) {
			t.Error(what, "kept:", got)
		}
	}
}

// What a kernel answers is its owner's, down to its spare room.
func TestAnswersAreNew(t *testing.T) {
	k := made(t, files("f", "x", "g", "y", "h", "z"))
	k.Exec("r", "in", "a", "b", "c")
	k.Exec("r", "in")
	k.Exec("r", "in", "a", "b", "c")
	k.Write("f", "!")
	k.Mark(api.Dup, 1)
	names, given, trace := k.Names(), k.Files(), k.Trace()
	wantNames, wantFiles := slices.Clone(names), slices.Clone(given)
	want := []api.Event{
		{Kind: api.Exec, N: api.Unknown, A: "r", L: l("a", "b", "c")}, {Kind: api.Exec, N: api.Unknown, A: "r"},
		{Kind: api.Exec, N: api.Unknown, A: "r", L: l("a", "b", "c")}, {Kind: api.Write, A: "f", B: "!"}, {Kind: api.Dup, N: 1},
	}
	spoil(k.Names(), "spoiled")
	spoil(k.Files(), api.File{Name: "spoiled"})
	spoilEvents(k.Trace())
	if !slices.Equal(names, wantNames) || !slices.Equal(given, wantFiles) || !SameEvents(trace, want) {
		t.Error("an earlier answer shows it:", names, given, trace)
	}
	holds(t, k, "f", "x!", "g", "y", "h", "z")
	asks(t, k, want...)
	// Nor do lists of one answer show what is written into one another.
	spoil(trace[0].L, "spoiled")
	if !SameEvents(trace[1:], want[1:]) {
		t.Error("of one answer:", trace)
	}
	k.Mark(api.Close, 1)
	if len(k.Trace()) != 6 || len(trace) != 5 {
		t.Error("it grows with the kernel")
	}
}

func TestEraseIsNew(t *testing.T) {
	shared := hidden("a", "b")
	whole := []api.Event{{Kind: api.Exec, L: shared}, {Kind: api.Dup, L: shared}, {Kind: api.Exec, N: 1, L: shared}, {Kind: api.Write}, {Kind: api.Open, A: "hidden"}}
	events := whole[:4]
	want := []api.Event{{Kind: api.Exec, L: l("a", "b")}, {Kind: api.Exec, N: 1, L: l("a", "b")}, {Kind: api.Write}}
	one, other := Erase(events), Erase(events)
	spoil(one[0].L, "spoiled")
	if !SameEvents(one[1:], want[1:]) {
		t.Error("lists of one answer:", one)
	}
	spoilEvents(one)
	if !SameEvents(other, want) || !SameEvents(Erase(events), want) {
		t.Error("another answer:", other)
	}
	if !slices.Equal(shared[:4], l("a", "b", "hidden", "hidden")) || events[1].Kind != api.Dup || whole[4].A != "hidden" {
		t.Error("changed:", shared[:4], whole)
	}
	spoilEvents(events)
	if !SameEvents(other, want) {
		t.Error("it shows what was handed in:", other)
	}
	// Nor where nothing is left out, or all of it is.
	all := slices.Clone(want)
	same := Erase(all)
	spoilEvents(same)
	if all[0].Kind != api.Exec || all[0].L[0] != "a" {
		t.Error("all of it:", all)
	}
	marks := []api.Event{{Kind: api.Tube}, {Kind: api.Close}}
	spoilEvents(Erase(marks))
	if marks[0].Kind != api.Tube || marks[1].Kind != api.Close {
		t.Error("none of it:", marks)
	}
}

func TestComparingChangesNothing(t *testing.T) {
	whole := []api.Event{{Kind: api.Exec, L: hidden("a")}, {Kind: api.Open}, {Kind: api.Write}}
	a, b := whole[:1], []api.Event{{Kind: api.Exec, L: l("a")}}
	if !SameEvents(a, b) || !Begins(a, b) || !Begins(b, whole) || Begins(whole, a) {
		t.Error("what lies behind is read")
	}
	if !slices.Equal(a[0].L[:3], l("a", "hidden", "hidden")) || whole[1].Kind != api.Open || whole[2].Kind != api.Write {
		t.Error("changed:", whole)
	}
}

func TestTheChaptersExamples(t *testing.T) {
	w := files("f", "x")
	w.Rows = []api.Row{{Name: "up", Any: true, Reads: true, Copy: true, Out: ":"}}
	k := made(t, w)
	said(t, ":hi", 0, true)(k.Exec("up", "hi", "a"))
	said(t, "", api.Unknown, false)(k.Exec("no", "hi"))
	opened(t, "x", true)(k.Open("f", 1))
	opened(t, "", false)(k.Open("g", 1))
	opened(t, "", true)(k.Open("g", 2))
	if err := k.Write("g", "y"); err != nil {
		t.Error(err)
	}
	holds(t, k, "f", "x", "g", "y")
}
