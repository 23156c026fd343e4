package cache

import (
	"math/rand/v2"
	"slices"
	"strings"
	"testing"

	"patois/api"
	"patois/core"
	"patois/cparse"
	"patois/run"
)

// model is a cache as the chapter has it, of when each string was asked for last.
// Its times, and its strings, are of the asks that ended well, since it was cleared.
type model struct {
	most, now, hits, misses int
	last                    map[string]int
}

func (m *model) parse(s string) {
	m.now++
	_, err := cparse.Parse(s)
	if _, is := m.last[s]; is {
		m.hits++
	} else {
		m.misses++
	}
	if err != nil {
		return
	}
	m.last[s] = m.now
	if keys := m.keys(); len(keys) > m.most {
		delete(m.last, keys[0])
	}
}

func (m *model) keys() []string {
	var all []string
	for s := range m.last {
		all = append(all, s)
	}
	slices.SortFunc(all, func(a, b string) int { return m.last[a] - m.last[b] })
	return all
}

// clears stands for a Clear among the strings that are asked for.
const clears = "(clear)"

// goes asks a cache, and its model, for all of these, one after the other, and holds
// what they tell against each other each time.
func goes(t *testing.T, most int, asked []string) {
	t.Helper()
	c, m := New(most), model{most: min(max(most, 0), api.MaxCache), last: map[string]int{}}
	for _, s := range asked {
		if s == clears {
			c.Clear()
			clear(m.last)
		} else {
			ask(t, c, s)
			m.parse(s)
		}
		shows(t, c, m.hits, m.misses, m.keys()...)
	}
	if t.Failed() {
		t.Fatalf("New(%d), then %q", most, asked)
	}
}

// All short runs of calls tell what the model does.
func TestAsTheModel(t *testing.T) {
	steps := l("", "a", "b", "c", "{", clears)
	var all func(most, n int, asked []string)
	all = func(most, n int, asked []string) {
		if n == 0 {
			goes(t, most, asked)
			return
		}
		for _, s := range steps {
			all(most, n-1, append(slices.Clone(asked), s))
		}
	}
	for most := -1; most <= 4; most++ {
		all(most, 5, nil)
	}
}

// And so do long ones.
func TestLongRunsAsTheModel(t *testing.T) {
	r := rand.New(rand.NewPCG(16, 16))
	for most := -2; most <= api.MaxCache+2; most++ {
		for few := 1; few <= 15; few++ {
			sources := append(numbers(few), "{", "set x")
			var asked []string
			for range 150 {
				asked = append(asked, sources[r.IntN(len(sources))])
				if r.IntN(50) == 0 {
					asked = append(asked, clears)
				}
			}
			goes(t, most, asked)
		}
	}
}

// P0.12: a run with a cache means the same as without.
func TestRunsWithACache(t *testing.T) {
	for _, source := range l(
		"put a", "eval {put a}; eval {put a}; put b", "set x {put hi}; eval $x; eval $x; eval {put ho}; eval $x",
		"foreach i {1 2 3 4 5} {put $i; if {eq $i 3} {put x} {put y}}", `foreach i "a b c a b" {eval "put $i"; eval "\{"}`,
		"proc f {if {eq $1 xxxx} {put end} {put [put $1]; f x$1}}; f x; f xx; f {}", "while {put a; eval {set}} {put b}",
		"while {true} {eval {put a}}", "proc f {f}; f", "eval {eval {eval {put a}; put b}; put c}; eval {put a}", "eval {exit 3}; put a",
		"pipe {put a} {read x; put $x$x} {read x; put $x}; put [eval {put a}][eval {put a}]", "from f {read x; eval $x; read x; eval $x}",
	) {
		program, err := cparse.Parse(source)
		if err != nil {
			t.Fatalf("%q: %v", source, err)
		}
		w := api.World{Files: []api.File{{Name: "f", Data: "put a\nput a\n"}}}
		o := run.Defaults()
		o.Parse = cparse.Parse
		want, _ := run.Run(program, w, o)
		for most := -1; most <= api.MaxCache+1; most++ {
			c := New(most)
			for range 2 {
				o.Parse = c.Parse
				if got, err := run.Run(program, w, o); !run.SameResult(got, want) || err != nil {
					t.Errorf("%q, %d: %.400v, %v; not %.400v", source, most, got, err, want)
				}
			}
			if len(c.Keys()) > max(0, min(most, api.MaxCache)) || most < 1 && c.Hits() > 0 {
				t.Errorf("%q, %d: %q, %d", source, most, c.Keys(), c.Hits())
			}
		}
	}
}

// A caller that writes into each program that it is given does itself no good, and
// the cache no harm.
func TestRunsThatSpoilTheirPrograms(t *testing.T) {
	c := New(3)
	sources := l("a", "set x [b]", "if {a} {b}", strings.Repeat("a;", 100), "{")
	r := rand.New(rand.NewPCG(16, 2))
	for range 2000 {
		s := sources[r.IntN(len(sources))]
		want, _ := cparse.Parse(s)
		got, _ := c.Parse(s)
		if !core.Same(got, want) {
			t.Fatalf("Parse(%q): %v", s, got)
		}
		spoil(got)
	}
}
