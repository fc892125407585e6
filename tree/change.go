package tree

import (
	"slices"

	"depot/api"
	"depot/name"
)

// Get: what stands at a path.
func Get(n api.Node, path string) (api.Node, api.Errno) {
	names, code := namesOf(path, n)
	if code != api.OK {
		return api.Node{}, code
	}
	found, code := reach(&n, names)
	if code != api.OK {
		return api.Node{}, code
	}
	return Copy(*found), api.OK
}

// Put: the tree with sub at a path.
func Put(n api.Node, path string, sub api.Node) (api.Node, api.Errno) {
	names, code := namesOf(path, n, sub)
	if code != api.OK {
		return api.Node{}, code
	}
	if len(names) == 0 {
		return Copy(sub), api.OK
	}
	changed := Copy(n)
	holder, last, code := reachHolder(&changed, names)
	if code != api.OK {
		return api.Node{}, code
	}
	place, found := find(holder.Kids, last)
	if !found {
		holder.Kids = slices.Insert(holder.Kids, place, api.Entry{Name: last})
	}
	holder.Kids[place].Node = Copy(sub)
	// Two well-formed trees may be too deep or too large together.
	if _, code := Check(changed); code != api.OK {
		return api.Node{}, code
	}
	return changed, api.OK
}

// Cut: the tree without what stands at a path.
func Cut(n api.Node, path string) (api.Node, api.Errno) {
	names, code := namesOf(path, n)
	if code != api.OK {
		return api.Node{}, code
	}
	if len(names) == 0 {
		return api.Node{}, api.ErrRoot
	}
	changed := Copy(n)
	holder, last, code := reachHolder(&changed, names)
	if code != api.OK {
		return api.Node{}, code
	}
	place, found := find(holder.Kids, last)
	if !found {
		return api.Node{}, api.ErrMissing
	}
	holder.Kids = slices.Delete(holder.Kids, place, place+1)
	return changed, api.OK
}

// namesOf: the path's names, unless one of the trees isn't well-formed, or the path is none.
func namesOf(path string, trees ...api.Node) ([]string, api.Errno) {
	for _, n := range trees {
		if _, code := Check(n); code != api.OK {
			return nil, code
		}
	}
	names, fault := name.Split(path)
	return names, fault.Code
}

// reach: the node to which the names lead, in the tree's own memory.
func reach(n *api.Node, names []string) (*api.Node, api.Errno) {
	for _, s := range names {
		if n.Kind != api.Dir {
			return nil, api.ErrNotDir
		}
		place, found := find(n.Kids, s)
		if !found {
			return nil, api.ErrMissing
		}
		n = &n.Kids[place].Node
	}
	return n, api.OK
}

// reachHolder: the directory for the last of the names, of which there is at least one, and that name.
func reachHolder(n *api.Node, names []string) (*api.Node, string, api.Errno) {
	ahead, last := names[:len(names)-1], names[len(names)-1]
	holder, code := reach(n, ahead)
	switch {
	case code != api.OK:
		return nil, "", code
	case holder.Kind != api.Dir:
		return nil, "", api.ErrNotDir
	}
	return holder, last, api.OK
}

// find: where among the entries of a well-formed directory that name stands, or would stand.
func find(kids []api.Entry, s string) (int, bool) {
	return slices.BinarySearchFunc(kids, s, func(kid api.Entry, s string) int {
		return name.Compare(kid.Name, s)
	})
}
