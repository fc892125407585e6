package diff

import (
	"depot/api"
	"depot/name"
)

// together goes through the entries of well-formed directories at once: visit is called for each name that one of them has, in the order of the names, with a node for each directory, nil where it hasn't the name. The nodes lie in the directories' own memory; their list is good until visit answers.
func together(visit func(s string, nodes []*api.Node), dirs ...[]api.Entry) {
	left := append([][]api.Entry(nil), dirs...)
	nodes := make([]*api.Node, len(dirs))
names:
	for {
		s, some := firstName(left)
		if !some {
			break names
		}
		for i, kids := range left {
			nodes[i] = nil
			if len(kids) > 0 && kids[0].Name == s {
				nodes[i] = &kids[0].Node
				left[i] = kids[1:]
			}
		}
		visit(s, nodes)
	}
}

// firstName: the first name of all that are left; false, if none is.
func firstName(left [][]api.Entry) (string, bool) {
	first, some := "", false
	for _, kids := range left {
		if len(kids) > 0 && (!some || name.Compare(kids[0].Name, first) < 0) {
			first, some = kids[0].Name, true
		}
	}
	return first, some
}
