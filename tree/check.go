package tree

import (
	"strings"

	"depot/api"
	"depot/name"
	"depot/wire"
)

// firstWord stands at the beginning of an archive.
const firstWord = "depot-archive-1"

// offence is what a walk gives up with.
type offence struct {
	path string
	code api.Errno
}

// walk is the way from the root to the node that is looked at, and the bytes counted so far.
type walk struct {
	names []string
	bytes int
}

// Target: may a link have this target?
func Target(t string) api.Errno {
	if t == "" || strings.Contains(t, "\x00") {
		return api.ErrTarget
	}
	return api.OK
}

// Check: the first offence of a tree, and its path.
func Check(n api.Node) (path string, code api.Errno) {
	defer func() {
		if met := recover(); met != nil {
			first := met.(offence)
			path, code = first.path, first.code
		}
	}()
	w := walk{bytes: framed(firstWord)}
	w.node(n)
	return "", api.OK
}

// Size: the bytes of the tree's archive.
func Size(n api.Node) (int, api.Errno) {
	if _, code := Check(n); code != api.OK {
		return 0, code
	}
	return framed(firstWord) + treeBytes(n), api.OK
}

// node goes through the tree whose root is the last on the way.
func (w *walk) node(n api.Node) {
	if 1+len(w.names) > api.MaxDepth {
		w.refuse(api.ErrDeep)
	}
	w.refuse(checkFields(n))
	w.count(nodeBytes(n))
	for i := range n.Kids {
		w.names = append(w.names, n.Kids[i].Name)
		w.entry(n.Kids[:i+1])
		w.node(n.Kids[i].Node)
		w.names = w.names[:len(w.names)-1]
	}
}

// entry looks at the last entry, of which the others stand ahead.
func (w *walk) entry(kids []api.Entry) {
	last := len(kids) - 1
	w.refuse(name.Check(kids[last].Name))
	if last > 0 && name.Compare(kids[last-1].Name, kids[last].Name) >= 0 {
		w.refuse(api.ErrOrder)
	}
	w.count(entryBytes(kids[last].Name))
}

func (w *walk) count(bytes int) {
	w.bytes += bytes
	if w.bytes > api.MaxArchive {
		w.refuse(api.ErrBig)
	}
}

// refuse gives the walk up, unless the code is OK.
func (w *walk) refuse(code api.Errno) {
	if code != api.OK {
		panic(offence{path: strings.Join(w.names, "/"), code: code})
	}
}

// checkFields looks at a node by itself: its place and its entries don't matter.
func checkFields(n api.Node) api.Errno {
	hasKids := len(n.Kids) > 0
	switch {
	case n.Kind == api.File && hasKids,
		n.Kind == api.Link && (n.Exec || hasKids),
		n.Kind == api.Dir && (n.Exec || n.Text != ""):
		return api.ErrField
	case n.Kind == api.Link:
		return Target(n.Text)
	case n.Kind != api.File && n.Kind != api.Dir:
		return api.ErrKind
	}
	return api.OK
}

// treeBytes: the bytes of a node and of all below it.
func treeBytes(n api.Node) int {
	sum := nodeBytes(n)
	for _, kid := range n.Kids {
		sum += entryBytes(kid.Name) + treeBytes(kid.Node)
	}
	return sum
}

// nodeBytes: the bytes of a node without its entries.
func nodeBytes(n api.Node) int {
	sum := framed("(", "type", ")")
	switch n.Kind {
	case api.File:
		sum += framed("regular", "contents", n.Text)
		if n.Exec {
			sum += framed("executable", "")
		}
	case api.Link:
		sum += framed("symlink", "target", n.Text)
	case api.Dir:
		sum += framed("directory")
	}
	return sum
}

// entryBytes: the bytes of an entry beside its node.
func entryBytes(entryName string) int {
	return framed("entry", "(", "name", entryName, "node", ")")
}

// framed: the bytes of words that are framed one behind the other.
func framed(words ...string) int {
	sum := 0
	for _, word := range words {
		sum += wire.Framed(len(word))
	}
	return sum
}
