package run

import (
	"patois/api"
	"patois/lists"
)

// word answers the list of a word.
func (r *running) word(l []api.Node) ([]string, error) {
	switch first := l[0]; first.Kind {
	case api.Lit:
		return []string{first.S}, nil
	case api.Var:
		made, _ := r.Get(first.S)
		return made, nil
	case api.Cat:
		return r.cat(api.MaxList, kids(l)...)
	case api.Join:
		return r.join(kids(l)...)
	case api.Sub:
		return r.sub(kids(l)[0])
	}
	return r.turned(l)
}

// turned answers what a word with one child makes of that one's list.
func (r *running) turned(l []api.Node) ([]string, error) {
	made, err := r.word(kids(l)[0])
	if err != nil {
		return nil, err
	}
	switch l[0].Kind {
	case api.Split:
		return lists.Split(made)
	case api.Glob:
		return lists.Glob(made, r.Names()...)
	case api.Plain:
		return lists.Plain(made)
	case api.Esc:
		return lists.Esc(made)
	case api.Flat:
		return lists.Flat(made)
	case api.Count:
		return lists.Count(made), nil
	}
	return lists.Pick(made, l[0].N), nil
}

// cat answers the words' lists, one behind the other. Where they are more than
// most items, the next word is not looked at any more.
func (r *running) cat(most int, words ...[]api.Node) ([]string, error) {
	var made []string
	for _, word := range words {
		next, err := r.word(word)
		if err != nil {
			return nil, err
		}
		if made, err = lists.Cat(made, next); err != nil {
			return nil, err
		}
		if len(made) > most {
			return nil, api.ErrBig
		}
	}
	return made, nil
}

// join answers the words' lists, joined item by item. The first one is joined
// alone, as a list of no items counts as one empty item there too.
func (r *running) join(words ...[]api.Node) ([]string, error) {
	var made [][]string
	for _, word := range words {
		next, err := r.word(word)
		if err != nil {
			return nil, err
		}
		joined, err := lists.Join(append(made, next)...)
		if err != nil {
			return nil, err
		}
		made = [][]string{joined}
	}
	return made[0], nil
}

// sub answers one item: what a command says.
func (r *running) sub(command []api.Node) ([]string, error) {
	if err := r.step(); err != nil {
		return nil, err
	}
	var said string
	_, err := r.deeper(func() (int, error) {
		var err error
		said, err = r.catching(command)
		return 0, err
	})
	if err != nil {
		return nil, err
	}
	return []string{lists.Trim(said)}, nil
}

// flat answers a word as one string.
func (r *running) flat(l []api.Node) (string, error) {
	made, err := r.word(l)
	if err != nil {
		return "", err
	}
	if made, err = lists.Flat(made); err != nil {
		return "", err
	}
	return made[0], nil
}
