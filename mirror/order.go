package mirror

import (
	"depot/api"
	"depot/table"
)

// ties is what the finds have to do with each other.
type ties struct {
	finds *table.Table[string, found]
	lack  map[string]int                 // of each path: how many of its references haven't come
	users map[string][]string            // of each path: those that refer to it
	ready *table.Table[string, struct{}] // what hasn't come though all its references have
}

// inOrder: the finds, each behind those that it refers to, the least path first of those that may come; or the least path of those that never may.
func inOrder(finds *table.Table[string, found]) ([]found, string, api.Errno) {
	t := tie(finds)
	order := make([]found, 0, finds.Len())
rounds:
	for {
		path, _, some := t.ready.At(0)
		switch {
		case some:
			order = append(order, t.come(path))
			continue rounds
		case len(order) < finds.Len():
			return nil, t.stuck(), api.ErrCycle
		}
		return order, "", api.OK
	}
}

// tie: the ties of the finds, of which none has come. What else they refer to is in the store.
func tie(finds *table.Table[string, found]) *ties {
	t := &ties{finds: finds, lack: map[string]int{}, users: map[string][]string{}, ready: table.New[string, struct{}]()}
	for path, f := range finds.All() {
		for _, ref := range f.Refs {
			if _, awaited := finds.Get(ref); awaited && ref != path {
				t.lack[path]++
				t.users[ref] = append(t.users[ref], path)
			}
		}
		if t.lack[path] == 0 {
			t.ready.Put(path, struct{}{})
		}
	}
	return t
}

// come: a path that is ready comes.
func (t *ties) come(path string) found {
	t.ready.Cut(path)
	for _, user := range t.users[path] {
		t.lack[user]--
		if t.lack[user] == 0 {
			t.ready.Put(user, struct{}{})
		}
	}
	f, _ := t.finds.Get(path)
	return f
}

// stuck: the least path that hasn't come, where none is ready though some are left.
func (t *ties) stuck() string {
	for path := range t.finds.All() {
		if t.lack[path] > 0 {
			return path
		}
	}
	return ""
}
