package store

import (
	"container/heap"
	"slices"

	"depot/api"
)

// heapOfPaths has the least path on its top.
type heapOfPaths []string

func (h heapOfPaths) Len() int           { return len(h) }
func (h heapOfPaths) Less(i, j int) bool { return h[i] < h[j] }
func (h heapOfPaths) Swap(i, j int)      { h[i], h[j] = h[j], h[i] }

// Push and Pop are container/heap's, which puts what comes in where it belongs, and what goes out to the end.
func (h *heapOfPaths) Push(path any) { *h = append(*h, path.(string)) }

func (h *heapOfPaths) Pop() any {
	last := len(*h) - 1
	path := (*h)[last]
	*h = (*h)[:last]
	return path
}

// Closure: the paths that are reached from the roots, rising.
func (v *View) Closure(roots []string) ([]string, api.Errno) {
	reached, code := v.reach(roots)
	if code != api.OK {
		return nil, code
	}
	paths := make([]string, 0, len(reached))
	for path := range reached {
		paths = append(paths, path)
	}
	slices.Sort(paths)
	return paths, api.OK
}

// Order: the closure of the roots, each path behind its references, the least first of those that may come.
func (v *View) Order(roots []string) ([]string, api.Errno) {
	lack, code := v.reach(roots) // of each path: how many of its references haven't come
	if code != api.OK {
		return nil, code
	}
	users := v.usersWithin(lack)
	var ready heapOfPaths
	for path, refs := range lack {
		if refs == 0 {
			heap.Push(&ready, path)
		}
	}
	order := make([]string, 0, len(lack))
	for ready.Len() > 0 {
		path := heap.Pop(&ready).(string)
		order = append(order, path)
		for _, user := range users[path] {
			lack[user]--
			if lack[user] == 0 {
				heap.Push(&ready, user)
			}
		}
	}
	return order, api.OK
}

// reach: the paths that are reached from the roots, each with the number of its references but itself.
func (v *View) reach(roots []string) (map[string]int, api.Errno) {
	reached := map[string]int{}
	left := slices.Clone(roots)
	for len(left) > 0 {
		path := left[len(left)-1]
		left = left[:len(left)-1]
		if _, before := reached[path]; before {
			continue
		}
		r, there := v.records.Get(path)
		if !there {
			return nil, api.ErrMissing
		}
		refs := others(r)
		reached[path] = len(refs)
		left = append(left, refs...)
	}
	return reached, api.OK
}

// usersWithin: of the reached paths, those that refer to each; what isn't reached is left out, however much there is of it.
func (v *View) usersWithin(reached map[string]int) map[string][]string {
	users := map[string][]string{}
	for path := range reached {
		r, _ := v.records.Get(path)
		for _, ref := range others(r) {
			users[ref] = append(users[ref], path)
		}
	}
	return users
}
