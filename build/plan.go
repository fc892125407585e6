package build

import (
	"container/heap"
	"slices"

	"depot/api"
)

// heapOfNames has the least name on its top.
type heapOfNames []string

func (h heapOfNames) Len() int           { return len(h) }
func (h heapOfNames) Less(i, j int) bool { return h[i] < h[j] }
func (h heapOfNames) Swap(i, j int)      { h[i], h[j] = h[j], h[i] }

// Push and Pop are container/heap's, which puts what comes in where it belongs, and what goes out to the end.
func (h *heapOfNames) Push(name any) { *h = append(*h, name.(string)) }

func (h *heapOfNames) Pop() any {
	last := len(*h) - 1
	name := (*h)[last]
	*h = (*h)[:last]
	return name
}

// ties is what the needed recipes have to do with each other.
type ties struct {
	lack  map[string]int      // of each name: how many of its dependencies haven't come
	users map[string][]string // of each name: those that it is a dependency of
	ready heapOfNames         // what hasn't come though all its dependencies have
}

// Plan: the names of the recipes that are needed, each behind those that it uses.
func (b *Book) Plan(want string) ([]string, error) {
	names := b.needed(want)
	for _, name := range names {
		if !b.has(name) {
			return nil, &Failure{Name: name, Step: noStep, Code: api.ErrMissing}
		}
	}
	t := b.tie(names)
	order := make([]string, 0, len(names))
plan:
	for {
		switch {
		case len(order) == len(names):
			return order, nil
		case len(t.ready) == 0:
			break plan
		}
		order = append(order, t.next())
	}
	return nil, &Failure{Name: t.stuck(names), Step: noStep, Code: api.ErrCycle}
}

// needed: the name and all that its recipe uses, at first hand or further off, rising.
func (b *Book) needed(want string) []string {
	met := map[string]struct{}{want: {}}
	names := []string{want}
	for i := 0; i < len(names); i++ { // the list grows on the way
		for _, dep := range b.recipes[names[i]].Deps {
			if _, before := met[dep]; !before {
				met[dep] = struct{}{}
				names = append(names, dep)
			}
		}
	}
	slices.Sort(names)
	return names
}

// tie: the ties of these names, of which none has come; they rise, and no dependency of theirs is left out.
func (b *Book) tie(names []string) *ties {
	t := &ties{lack: map[string]int{}, users: map[string][]string{}}
	for _, name := range names {
		deps := b.recipes[name].Deps
		t.lack[name] = len(deps)
		for _, dep := range deps {
			t.users[dep] = append(t.users[dep], name)
		}
		if len(deps) == 0 {
			heap.Push(&t.ready, name)
		}
	}
	return t
}

// next: the least name that is ready comes.
func (t *ties) next() string {
	name := heap.Pop(&t.ready).(string)
	for _, user := range t.users[name] {
		t.lack[user]--
		if t.lack[user] == 0 {
			heap.Push(&t.ready, user)
		}
	}
	return name
}

// stuck: the first of the names that hasn't come, where none is ready.
func (t *ties) stuck(names []string) string {
	first := slices.IndexFunc(names, func(name string) bool { return t.lack[name] > 0 })
	return names[first]
}
