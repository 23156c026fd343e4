package lists

import (
	"patois/api"
	"patois/pattern"
)

// add answers made, a list of this package's own, with the items behind it. The
// bounds are asked ahead of copying, so that what is too big takes no room.
func add(made []string, items ...string) ([]string, error) {
	if len(items) > api.MaxList-len(made) || Fits(items) != nil {
		return nil, api.ErrBig
	}
	return append(made, items...), nil
}

// gather answers what each of l becomes, one list behind the other. It ends as
// soon as that is too big, as nothing behind makes it smaller again.
func gather[T any](l []T, become func(T) []string) ([]string, error) {
	var made []string
	for _, one := range l {
		var err error
		if made, err = add(made, become(one)...); err != nil {
			return nil, err
		}
	}
	return made, nil
}

// alone makes of what is done with a string what gather asks for.
func alone(become func(string) string) func(string) []string {
	return func(s string) []string { return []string{become(s)} }
}

// files answers the names that an item matches; its bytes, if it is no pattern
// or matches none.
func files(item string, names ...string) []string {
	if pattern.Live(item) {
		if found := pattern.Files(item, names...); len(found) > 0 {
			return found
		}
	}
	return []string{pattern.Plain(item)}
}

// oneAtLeast answers l, or one empty item for a list of none.
func oneAtLeast(l []string) []string {
	if len(l) == 0 {
		return []string{""}
	}
	return l
}

// joinTwo joins two lists of one item at least each.
func joinTwo(a, b []string) ([]string, error) {
	var made []string
	for i := range joined(len(a), len(b)) {
		var err error
		if made, err = add(made, at(a, i)+at(b, i)); err != nil {
			return nil, err
		}
	}
	return made, nil
}

// joined answers how many items come of joining so many with so many.
func joined(a, b int) int {
	if a == 1 || b == 1 {
		return max(a, b)
	}
	return min(a, b)
}

// at answers the i-th item; the only one of a list goes with every i.
func at(l []string, i int) string {
	if len(l) == 1 {
		return l[0]
	}
	return l[i]
}

func tooLong(s string) bool { return len(s) > api.MaxString }
