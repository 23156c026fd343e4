package world

import (
	"slices"

	"patois/api"
)

// asked is what was asked of a kernel, in order. Its methods have pointer
// receivers, so that *Kernel has them and a bare Kernel does not.
type asked struct{ events []api.Event }

// Mark keeps an event of which the world itself has nothing to do: Tube, Dup or
// Close.
func (a *asked) Mark(kind, n int) {
	if isMark(kind) {
		a.note(api.Event{Kind: kind, N: n})
	}
}

// Trace answers the events.
func (a *asked) Trace() []api.Event { return pick(a.events, func(int) bool { return true }) }

// Len answers how many events there are.
func (a *asked) Len() int { return len(a.events) }

func (a *asked) note(e api.Event) { a.events = append(a.events, own(e)) }

// Erase answers the events without those that Mark makes.
func Erase(l []api.Event) []api.Event {
	return pick(l, func(kind int) bool { return !isMark(kind) })
}

// Begins answers whether b begins with a.
func Begins(a, b []api.Event) bool {
	return len(a) <= len(b) && SameEvents(a, b[:len(a)])
}

// SameEvents answers whether both have the same events in the same order.
func SameEvents(a, b []api.Event) bool { return slices.EqualFunc(a, b, same) }

func same(a, b api.Event) bool {
	return a.Kind == b.Kind && a.N == b.N && a.A == b.A && a.B == b.B && slices.Equal(a.L, b.L)
}

func isMark(kind int) bool {
	return kind == api.Tube || kind == api.Dup || kind == api.Close
}

// pick answers the events of the wanted kinds, sharing nothing with l.
func pick(l []api.Event, wanted func(kind int) bool) []api.Event {
	var picked []api.Event
	for _, e := range l {
		if wanted(e.Kind) {
			picked = append(picked, own(e))
		}
	}
	return picked
}

// own answers the event with a list of its own, as the one it came with is
// somebody else's.
func own(e api.Event) api.Event {
	e.L = slices.Clone(e.L)
	return e
}
