package diff

import (
	"depot/api"
	"depot/tree"
)

// merger merges, and gathers the paths that clash.
type merger struct {
	clashes []string
}

// Merge: a and b, which both came of old, in one; and the paths at which they can't be.
func Merge(old, a, b api.Node) (api.Node, []string, api.Errno) {
	if code := checkAll(old, a, b); code != api.OK {
		return api.Node{}, nil, code
	}
	var m merger
	merged := tree.Copy(*m.merge("", &old, &a, &b))
	// What both added may be too large together.
	if code := checkAll(merged); code != api.OK {
		return api.Node{}, nil, code
	}
	return merged, m.clashes, api.OK
}

// merge: what the two make of old at the path, nil for nothing. The answer may lie in their own memory.
func (m *merger) merge(path string, old, a, b *api.Node) *api.Node {
	switch {
	case same(a, b), same(old, b):
		return a
	case same(old, a):
		return b
	case isDir(a) && isDir(b):
		return m.mergeDirs(path, old, a, b)
	}
	m.clashes = append(m.clashes, path)
	return a
}

// mergeDirs merges two directories name by name; old may be anything.
func (m *merger) mergeDirs(path string, old, a, b *api.Node) *api.Node {
	var was []api.Entry
	if isDir(old) {
		was = old.Kids
	}
	merged := api.Node{Kind: api.Dir}
	together(func(s string, nodes []*api.Node) {
		if n := m.merge(below(path, s), nodes[0], nodes[1], nodes[2]); n != nil {
			merged.Kids = append(merged.Kids, api.Entry{Name: s, Node: *n})
		}
	}, was, a.Kids, b.Kids)
	return &merged
}

// same: are both nothing, or equal trees?
func same(a, b *api.Node) bool {
	if a == nil || b == nil {
		return a == b
	}
	return tree.Equal(*a, *b)
}

func isDir(n *api.Node) bool { return n != nil && n.Kind == api.Dir }
