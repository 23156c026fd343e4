package store

import (
	"slices"
	"strconv"
	"strings"
	"testing"

	"patois/api"
	"patois/core"
)

// l is a list of these items.
func l(items ...string) []string { return items }

// value is a variable with these items.
func value(name string, items ...string) api.Value { return api.Value{Name: name, L: items} }

// list asks for a list and a true, or, if has is false, for nothing.
func list(t *testing.T, has bool, want ...string) func([]string, bool) {
	t.Helper()
	return func(got []string, had bool) {
		t.Helper()
		if !slices.Equal(got, want) || had != has {
			t.Errorf("%q %v, not %q %v", got, had, want, has)
		}
	}
}

// program asks for a program and a true, or, if has is false, for nothing.
func program(t *testing.T, has bool, want ...api.Node) func([]api.Node, bool) {
	t.Helper()
	return func(got []api.Node, had bool) {
		t.Helper()
		if !slices.Equal(got, want) || had != has {
			t.Errorf("%v %v, not %v %v", got, had, want, has)
		}
	}
}

// names asks for these items, whatever they are the names of.
func names(t *testing.T, got []string, want ...string) {
	t.Helper()
	if !slices.Equal(got, want) {
		t.Errorf("%q, not %q", got, want)
	}
}

func sameValues(a, b []api.Value) bool {
	return slices.EqualFunc(a, b, func(a, b api.Value) bool { return a.Name == b.Name && slices.Equal(a.L, b.L) })
}

// vars asks for these variables, in this order.
func vars(t *testing.T, s *Store, want ...api.Value) {
	t.Helper()
	if got := s.Vars(); !sameValues(got, want) {
		t.Errorf("%q, not %q", got, want)
	}
}

// strange are names that no dialect can say: a store takes them all the same.
func strange() []string {
	return l("", " ", "**", "*a", "a*", "\\*", "1", "a b", "\x00", "\xff", "é", strings.Repeat("n", api.MaxName+1))
}

// P7.1

func TestNewOfNothing(t *testing.T) {
	for _, s := range []*Store{New(), New(nil...), New([]api.Value{}...)} {
		list(t, false)(s.Get("x"))
		list(t, false)(s.Get(""))
		list(t, true)(s.Get("*"))
		names(t, s.Args())
		names(t, s.Funs())
		vars(t, s)
	}
}

func TestNew(t *testing.T) {
	s := New(value("x", "1"), value("b"), value("", "none"), value("x", "2", "3"))
	list(t, true, "2", "3")(s.Get("x"))
	list(t, true)(s.Get("b"))
	list(t, true, "none")(s.Get(""))
	list(t, false)(s.Get("c"))
	list(t, false)(s.Get("X"))
	vars(t, s, value("", "none"), value("b"), value("x", "2", "3"))
}

// Of a name twice the last holds, also where that has no items.
func TestNewOfANameAgain(t *testing.T) {
	s := New(value("x", "1", "2"), value("y", "1"), value("x"), value("y", "2"), value("y", "3"))
	vars(t, s, value("x"), value("y", "3"))
}

// New sets its values as Set does: those of `*` are the arguments.
func TestNewOfTheArguments(t *testing.T) {
	s := New(value("*", "1"), value("x", "a"), value("*", "2", "3"))
	names(t, s.Args(), "2", "3")
	list(t, true, "2", "3")(s.Get("*"))
	vars(t, s, value("x", "a"))
	names(t, New(value("*", "1"), value("*")).Args())
}

func TestSet(t *testing.T) {
	s := New()
	s.Set("x", "a", "b")
	list(t, true, "a", "b")(s.Get("x"))
	s.Set("x", "c")
	list(t, true, "c")(s.Get("x"))
	s.Set("y", "", "")
	list(t, true, "", "")(s.Get("y"))
	s.Set("x")
	list(t, true)(s.Get("x"))
	list(t, false)(s.Get("xx"))
	vars(t, s, value("x"), value("y", "", ""))
}

func TestUnset(t *testing.T) {
	s := New(value("x", "a"), value("y", "b"), value("e"))
	s.Unset("x")
	s.Unset("x")
	s.Unset("none")
	s.Unset("e")
	list(t, false)(s.Get("x"))
	list(t, false)(s.Get("e"))
	vars(t, s, value("y", "b"))
	s.Set("x", "c")
	list(t, true, "c")(s.Get("x"))
}

func TestSwap(t *testing.T) {
	s := New(value("x", "a", "b"), value("e"))
	list(t, true, "a", "b")(s.Swap("x", true, "c"))
	list(t, true, "c")(s.Get("x"))
	list(t, true, "c")(s.Swap("x", true))
	list(t, true)(s.Swap("x", false))
	list(t, false)(s.Get("x"))
	list(t, false)(s.Swap("x", false))
	list(t, false)(s.Swap("x", true, "d", "e"))
	list(t, true, "d", "e")(s.Get("x"))
	list(t, true)(s.Swap("e", true, "f"))
	vars(t, s, value("e", "f"), value("x", "d", "e"))
}

// What comes with a false is not looked at.
func TestSwapToNone(t *testing.T) {
	s := New(value("x", "a"), value("*", "1"))
	list(t, true, "a")(s.Swap("x", false, "b", "c"))
	list(t, false)(s.Get("x"))
	list(t, true, "1")(s.Swap("*", false, "b", "c"))
	list(t, true)(s.Get("*"))
}

// A Swap with what a Swap answered puts back what was.
func TestSwapPutsBack(t *testing.T) {
	for _, name := range l("x", "e", "none", "*") {
		s := New(value("x", "a", "b"), value("e"), value("*", "1", "2"))
		before, had := s.Swap(name, true, "new")
		list(t, true, "new")(s.Swap(name, had, before...))
		vars(t, s, value("e"), value("x", "a", "b"))
		names(t, s.Args(), "1", "2")
	}
}

func TestArguments(t *testing.T) {
	s := New(value("x", "a"))
	names(t, s.SetArgs("1", "2"))
	names(t, s.Args(), "1", "2")
	list(t, true, "1", "2")(s.Get("*"))
	names(t, s.SetArgs("3"), "1", "2")
	names(t, s.SetArgs(), "3")
	names(t, s.SetArgs("", ""))
	names(t, s.Args(), "", "")
	vars(t, s, value("x", "a"))
}

func TestArgumentsByTheirName(t *testing.T) {
	s := New()
	s.Set("*", "1", "2")
	names(t, s.Args(), "1", "2")
	list(t, true, "1", "2")(s.Swap("*", true, "3"))
	names(t, s.SetArgs("4"), "3")
	s.Unset("*")
	list(t, true)(s.Get("*"))
	names(t, s.Args())
	s.Unset("*")
	s.Set("*")
	list(t, true)(s.Swap("*", true, "5"))
	list(t, true, "5")(s.Swap("*", false))
	list(t, true)(s.Swap("*", false))
	list(t, true)(s.Get("*"))
	vars(t, s)
}

// Whether a name is one is not looked at, and none stands for another.
func TestStrangeNames(t *testing.T) {
	s := New()
	for i, name := range strange() {
		list(t, false)(s.Get(name))
		s.Set(name, strconv.Itoa(i))
		s.SetFun(name, core.Lit(strconv.Itoa(i)))
	}
	for i, name := range strange() {
		list(t, true, strconv.Itoa(i))(s.Get(name))
		program(t, true, core.Lit(strconv.Itoa(i))...)(s.Fun(name))
	}
	names(t, s.Args())
	for i, name := range strange() {
		list(t, true, strconv.Itoa(i))(s.Swap(name, false))
		list(t, false)(s.Get(name))
	}
	vars(t, s)
	if got := s.Funs(); len(got) != len(strange()) {
		t.Errorf("%q", got)
	}
}

// The bounds of lists and strings are not a store's.
func TestMuchIsKept(t *testing.T) {
	const many = 100 * api.MaxList
	long := strings.Repeat("x", 100*api.MaxString)
	items := slices.Repeat(l(long, ""), many/2)
	s := New(value("x", items...))
	list(t, true, items...)(s.Get("x"))
	s.SetArgs(items...)
	list(t, true, items...)(s.Swap("*", true, long))
	for i := range many {
		s.Set(strconv.Itoa(i), strconv.Itoa(i))
		s.SetFun(strconv.Itoa(i), core.Seq())
	}
	if len(s.Vars()) != many+1 || len(s.Funs()) != many {
		t.Error(len(s.Vars()), len(s.Funs()))
	}
	nodes := slices.Repeat(core.Seq(), 10*api.MaxNodes)
	s.SetFun("f", nodes)
	program(t, true, nodes...)(s.Fun("f"))
}

// P7.2

func TestFun(t *testing.T) {
	s := New(value("v", "a"), value("*", "1"))
	program(t, false)(s.Fun("f"))
	program(t, false)(s.Fun("v"))
	program(t, false)(s.Fun("*"))
	call := core.New(api.Call, 0, "", core.Lit("echo"), core.Lit("a"))
	s.SetFun("f", call)
	program(t, true, call...)(s.Fun("f"))
	program(t, false)(s.Fun("F"))
	s.SetFun("f", core.Seq())
	program(t, true, core.Seq()...)(s.Fun("f"))
}

// Whether a program may be is not looked at, and one without nodes is one.
func TestFunOfNoProgram(t *testing.T) {
	s := New()
	s.SetFun("e", nil)
	s.SetFun("f", []api.Node{{Kind: -1, N: -2, K: -3, Size: -4, S: "x"}, {Kind: 99}})
	program(t, true)(s.Fun("e"))
	program(t, true, api.Node{Kind: -1, N: -2, K: -3, Size: -4, S: "x"}, api.Node{Kind: 99})(s.Fun("f"))
	names(t, s.Funs(), "e", "f")
}

// A name may stand for a variable and for a function: neither knows of the other.
func TestFunctionsAreNotVariables(t *testing.T) {
	s := New(value("x", "a"))
	s.SetFun("x", core.Lit("p"))
	s.SetFun("*", core.Lit("q"))
	s.Unset("x")
	s.Unset("*")
	program(t, true, core.Lit("p")...)(s.Fun("x"))
	program(t, true, core.Lit("q")...)(s.Fun("*"))
	names(t, s.Funs(), "*", "x")
	list(t, false)(s.Get("x"))
	list(t, true)(s.Get("*"))
	s.SetFun("f", core.Seq())
	s.SetArgs("1")
	list(t, false)(s.Get("f"))
	vars(t, s)
}

// Vars and Funs tell names byte by byte, in whatever order they came.
func TestNamesRise(t *testing.T) {
	rising := l("", "\x00", "1", "10", "2", "B", "Ba", "_", "a", "aa", "ab", "b", "é", "\xff")
	for shift := range rising {
		s := New(value("*", "none of them"))
		var want []api.Value
		for i := range rising {
			name := rising[(i*5+shift)%len(rising)]
			s.Set(name, "of "+name)
			s.SetFun(name, nil)
			want = append(want, value(rising[i], "of "+rising[i]))
		}
		for range 5 {
			names(t, s.Funs(), rising...)
			vars(t, s, want...)
		}
	}
}

// filled is a store with something of each kind.
func filled() *Store {
	s := New(value("x", "a", "b"), value("e"), value("*", "1", "2"))
	s.SetFun("f", core.Lit("p"))
	s.SetFun("g", core.Seq())
	return s
}

// isFilled asks for what filled has.
func isFilled(t *testing.T, s *Store) {
	t.Helper()
	vars(t, s, value("e"), value("x", "a", "b"))
	names(t, s.Args(), "1", "2")
	list(t, true, "1", "2")(s.Get("*"))
	list(t, true, "a", "b")(s.Get("x"))
	list(t, false)(s.Get("new"))
	names(t, s.Funs(), "f", "g")
	program(t, true, core.Lit("p")...)(s.Fun("f"))
	program(t, true, core.Seq()...)(s.Fun("g"))
	program(t, false)(s.Fun("new"))
}

// changes are all the ways in which a store changes.
func changes() map[string]func(*Store) {
	return map[string]func(*Store){
		"Set":            func(s *Store) { s.Set("x", "other") },
		"Set of another": func(s *Store) { s.Set("new", "other") },
		"Set of *":       func(s *Store) { s.Set("*", "other") },
		"Unset":          func(s *Store) { s.Unset("x") },
		"Unset of none":  func(s *Store) { s.Unset("e") },
		"Unset of *":     func(s *Store) { s.Unset("*") },
		"Swap":           func(s *Store) { spoil(first(s.Swap("x", true, "other")), "spoiled") },
		"Swap to none":   func(s *Store) { spoil(first(s.Swap("x", false)), "spoiled") },
		"Swap of *":      func(s *Store) { spoil(first(s.Swap("*", true)), "spoiled") },
		"SetArgs":        func(s *Store) { spoil(s.SetArgs("other"), "spoiled") },
		"SetFun":         func(s *Store) { s.SetFun("f", core.Lit("other")) },
		"SetFun anew":    func(s *Store) { s.SetFun("new", core.Seq()) },
		"what Get says":  func(s *Store) { spoil(first(s.Get("x")), "spoiled") },
		"what Fun says":  func(s *Store) { spoil(first(s.Fun("f")), api.Node{Kind: 9}) },
	}
}

func first[T any](l []T, _ bool) []T { return l }

func TestCloneIsTheSame(t *testing.T) {
	isFilled(t, filled())
	isFilled(t, filled().Clone())
	isFilled(t, filled().Clone().Clone())
	e := New().Clone()
	list(t, true)(e.Get("*"))
	vars(t, e)
	names(t, e.Funs())
	e.Set("x", "a")
	e.SetFun("f", core.Seq())
	e.SetArgs("1")
	vars(t, e, value("x", "a"))
	names(t, e.Funs(), "f")
	names(t, e.Args(), "1")
}

// Whatever is done to one of a store and its clone, the other does not show it.
func TestCloneHangsOnNothing(t *testing.T) {
	for what, change := range changes() {
		t.Run(what, func(t *testing.T) {
			s := filled()
			c := s.Clone()
			change(s)
			isFilled(t, c)
			s = filled()
			c = s.Clone()
			d := c.Clone()
			change(c)
			isFilled(t, s)
			isFilled(t, d)
		})
	}
}

// model is the chapter's words as plain lists: values as they came, the last of a
// name holding, and functions likewise.
type model struct {
	values []api.Value
	funs   []string
	bodies []string
	args   []string
}

func (m *model) at(name string) int {
	return slices.IndexFunc(m.values, func(v api.Value) bool { return v.Name == name })
}

func (m *model) get(name string) ([]string, bool) {
	if name == "*" {
		return m.args, true
	}
	if i := m.at(name); i >= 0 {
		return m.values[i].L, true
	}
	return nil, false
}

func (m *model) put(name string, has bool, items ...string) {
	if name == "*" {
		m.args = nil
		if has {
			m.args = items
		}
		return
	}
	m.values = slices.DeleteFunc(slices.Clone(m.values), func(v api.Value) bool { return v.Name == name })
	if has {
		m.values = append(m.values, value(name, items...))
	}
}

func (m *model) setFun(name, body string) {
	if i := slices.Index(m.funs, name); i >= 0 {
		m.bodies = slices.Clone(m.bodies)
		m.bodies[i] = body
		return
	}
	m.funs = append(slices.Clone(m.funs), name)
	m.bodies = append(slices.Clone(m.bodies), body)
}

// shows asks whether all that a store tells is what the model has.
func (m *model) shows(t *testing.T, s *Store) {
	t.Helper()
	for _, name := range l("", "*", "a", "x") {
		items, has := m.get(name)
		list(t, has, items...)(s.Get(name))
		if i := slices.Index(m.funs, name); i >= 0 {
			program(t, true, core.Lit(m.bodies[i])...)(s.Fun(name))
		} else {
			program(t, false)(s.Fun(name))
		}
	}
	names(t, s.Args(), m.args...)
	names(t, s.Funs(), slices.Sorted(slices.Values(m.funs))...)
	want := slices.Clone(m.values)
	slices.SortFunc(want, func(a, b api.Value) int { return strings.Compare(a.Name, b.Name) })
	vars(t, s, want...)
}

// step is a call of a store, and the same of the model.
type step struct {
	call, name string
	items      []string
}

func (p step) both(t *testing.T, s *Store, m *model) {
	t.Helper()
	items, has := m.get(p.name)
	switch p.call {
	case "set":
		s.Set(p.name, p.items...)
		m.put(p.name, true, p.items...)
	case "unset":
		s.Unset(p.name)
		m.put(p.name, false)
	case "swap":
		list(t, has, items...)(s.Swap(p.name, true, p.items...))
		m.put(p.name, true, p.items...)
	case "swap to none":
		list(t, has, items...)(s.Swap(p.name, false, p.items...))
		m.put(p.name, false)
	case "args":
		names(t, s.SetArgs(p.items...), m.args...)
		m.args = p.items
	case "fun":
		s.SetFun(p.name, core.Lit(p.items[0]))
		m.setFun(p.name, p.items[0])
	}
}

// All short runs of calls leave what the model has, and a clone of a store on the
// way what the model had there.
func TestAsTheModel(t *testing.T) {
	steps := []step{
		{"set", "x", l("1", "2")}, {"set", "x", nil}, {"set", "a", l("3")}, {"set", "*", l("4")}, {"set", "", l("5")},
		{"unset", "x", nil}, {"unset", "*", nil},
		{"swap", "x", l("6")}, {"swap", "*", l("7", "8")}, {"swap to none", "x", l("9")}, {"swap to none", "*", nil},
		{"args", "", l("10")}, {"args", "", nil},
		{"fun", "x", l("p")}, {"fun", "x", l("q")}, {"fun", "*", l("r")},
	}
	var all func(s *Store, m model, n int)
	all = func(s *Store, m model, n int) {
		for i := 0; n > 0 && i < len(steps); i++ {
			next, after := s.Clone(), m
			steps[i].both(t, next, &after)
			after.shows(t, next)
			all(next, after, n-1)
		}
		m.shows(t, s)
	}
	s := New(value("x", "0"))
	all(s, model{values: []api.Value{value("x", "0")}}, 3)
	// Now without clones on the way.
	for a := range steps {
		for b := range steps {
			for c := range steps {
				s, m := New(), model{}
				for _, i := range []int{a, b, c} {
					steps[i].both(t, s, &m)
				}
				m.shows(t, s)
			}
		}
	}
}

// P7.3

// hidden is a list with items behind its length.
func hidden[T any](behind T, items ...T) []T {
	return append(slices.Clone(items), behind, behind)[:len(items)]
}

// spoil writes over a list and all of its spare room.
func spoil[T any](list []T, with T) {
	all := list[:cap(list)]
	for i := range all {
		all[i] = with
	}
}

// given is a list that is handed in: it asks whether that, and what is behind it,
// is as it was, and then writes over all of it.
func given(t *testing.T, what string, hand func(items ...string)) {
	t.Helper()
	items := hidden("hidden", "a", "b")
	hand(items...)
	if !slices.Equal(items[:4], l("a", "b", "hidden", "hidden")) {
		t.Errorf("%s changed it: %q", what, items[:4])
	}
	spoil(items, "spoiled")
}

func TestListsAreNotKept(t *testing.T) {
	for _, name := range l("x", "*") {
		s := New()
		ways := map[string]func(...string){
			"New":  func(items ...string) { s = New(value(name, items...)) },
			"Set":  func(items ...string) { s.Set(name, items...) },
			"Swap": func(items ...string) { s.Swap(name, true, items...) },
			"SetArgs": func(items ...string) {
				s.SetArgs(items...)
				s.Set(name, s.Args()...)
			},
		}
		for what, hand := range ways {
			s.Unset(name)
			given(t, what, hand)
			list(t, true, "a", "b")(s.Get(name))
		}
		given(t, "Swap to none", func(items ...string) { s.Swap(name, false, items...) })
	}
	s := New()
	given(t, "SetArgs", func(items ...string) { s.SetArgs(items...) })
	names(t, s.Args(), "a", "b")
}

func TestTheValuesAreNotKept(t *testing.T) {
	values := hidden(value("hidden"), value("x", "a"), value("x", "b"), value("y"))
	s := New(values...)
	s.Set("x", "c")
	s.Set("y", "d")
	s.Set("z", "e")
	want := []api.Value{value("x", "a"), value("x", "b"), value("y"), value("hidden"), value("hidden")}
	if !sameValues(values[:5], want) {
		t.Errorf("changed: %q", values[:5])
	}
	spoil(values, value("spoiled"))
	vars(t, s, value("x", "c"), value("y", "d"), value("z", "e"))
}

// Two values with one list, and an empty one with something behind it, are lists
// of their own in the store.
func TestListsHandedInTogether(t *testing.T) {
	items, empty := hidden("hidden", "a", "b"), hidden("hidden")
	s := New(value("x", items...), value("y", items[:1]...), value("e", empty...), value("*", items...))
	spoil(first(s.Get("e")), "spoiled")
	spoil(items, "spoiled")
	names(t, empty[:2], "hidden", "hidden")
	spoil(empty, "spoiled")
	vars(t, s, value("e"), value("x", "a", "b"), value("y", "a"))
	names(t, s.Args(), "a", "b")
}

func TestProgramsAreNotKept(t *testing.T) {
	behind := api.Node{Kind: 99}
	nodes := hidden(behind, core.Lit("p")...)
	s := New()
	s.SetFun("f", nodes)
	s.SetFun("g", nodes)
	if !slices.Equal(nodes[:3], []api.Node{core.Lit("p")[0], behind, behind}) {
		t.Error("changed:", nodes[:3])
	}
	spoil(nodes, behind)
	program(t, true, core.Lit("p")...)(s.Fun("f"))
	program(t, true, core.Lit("p")...)(s.Fun("g"))
}

// What a store answers is its owner's, down to its spare room.
func TestAnswersAreNew(t *testing.T) {
	asked := map[string]func(s *Store) []string{
		"Get":     func(s *Store) []string { return first(s.Get("x")) },
		"Get *":   func(s *Store) []string { return first(s.Get("*")) },
		"Args":    func(s *Store) []string { return s.Args() },
		"Funs":    func(s *Store) []string { return s.Funs() },
		"Swap":    func(s *Store) []string { return first(s.Swap("x", true, "a", "b")) },
		"Swap *":  func(s *Store) []string { return first(s.Swap("*", true, "1", "2")) },
		"SetArgs": func(s *Store) []string { return s.SetArgs("1", "2") },
	}
	for what, ask := range asked {
		t.Run(what, func(t *testing.T) {
			s := filled()
			c := s.Clone()
			one, other := ask(s), ask(s)
			want := slices.Clone(other)
			spoil(one, "spoiled")
			spoil(ask(c), "spoiled")
			names(t, other, want...)
			isFilled(t, s)
			isFilled(t, c)
		})
	}
}

func TestProgramsAnsweredAreNew(t *testing.T) {
	s := filled()
	c := s.Clone()
	one, other := first(s.Fun("f")), first(s.Fun("f"))
	spoil(one, api.Node{Kind: 99})
	spoil(first(c.Fun("f")), api.Node{Kind: 99})
	program(t, true, core.Lit("p")...)(other, true)
	isFilled(t, s)
	isFilled(t, c)
}

func TestVarsAreNew(t *testing.T) {
	s := filled()
	s.Set("y", "c")
	want := []api.Value{value("e"), value("x", "a", "b"), value("y", "c")}
	one, other := s.Vars(), s.Vars()
	for i := range one {
		// Nor does one list of an answer show what is added to another.
		_ = append(one[i].L, "spoiled")
		spoil(one[i].L, "spoiled")
		if !sameValues(one[i+1:], want[i+1:]) {
			t.Errorf("of one answer: %q", one)
		}
	}
	spoil(one, value("spoiled"))
	if !sameValues(other, want) {
		t.Errorf("an earlier answer shows it: %q", other)
	}
	vars(t, s, want...)
}

// An answer of before stays as it was, whatever becomes of the store.
func TestAnswersStay(t *testing.T) {
	for what, change := range changes() {
		s := filled()
		values, items, args, funs, nodes := s.Vars(), first(s.Get("x")), s.Args(), s.Funs(), first(s.Fun("f"))
		change(s)
		if !sameValues(values, []api.Value{value("e"), value("x", "a", "b")}) {
			t.Errorf("%s: %q", what, values)
		}
		names(t, items, "a", "b")
		names(t, args, "1", "2")
		names(t, funs, "f", "g")
		program(t, true, core.Lit("p")...)(nodes, true)
	}
}

// Two stores of the same values have nothing in common.
func TestStoresAreApart(t *testing.T) {
	for _, change := range changes() {
		s, other := filled(), filled()
		change(s)
		isFilled(t, other)
	}
}

// The chapter's own examples.

func TestTheChaptersExamples(t *testing.T) {
	s := New()
	s.Set("x", "a", "b")
	list(t, true, "a", "b")(s.Get("x"))
	list(t, true, "a", "b")(s.Swap("x", false))
	list(t, false)(s.Get("x"))
	s.SetArgs("1", "2")
	list(t, true, "1", "2")(s.Get("*"))
}
