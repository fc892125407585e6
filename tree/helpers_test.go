package tree_test

import (
	"math/rand"
	"slices"
	"strings"

	"depot/api"
	"depot/name"
	"depot/tree"
)

func file(text string) api.Node { return api.Node{Kind: api.File, Text: text} }

func exec(text string) api.Node { return api.Node{Kind: api.File, Exec: true, Text: text} }

func link(target string) api.Node { return api.Node{Kind: api.Link, Text: target} }

func dir(kids ...api.Entry) api.Node { return api.Node{Kind: api.Dir, Kids: kids} }

func in(name string, n api.Node) api.Entry { return api.Entry{Name: name, Node: n} }

// nested: a node below so many directories, each but for it with the one entry d.
func nested(levels int, n api.Node) api.Node {
	for range levels {
		n = dir(in("d", n))
	}
	return n
}

// largest: the contents with which a file by itself has an archive of MaxArchive bytes.
func largest() string { return strings.Repeat("x", api.MaxArchive-112) }

// frame: the bytes of framed words, counted one nought after the other.
func frame(words ...string) int {
	sum := 0
	for _, w := range words {
		sum += 8 + len(w)
		for sum%8 != 0 {
			sum++
		}
	}
	return sum
}

// story is what the document says of a tree: its first offence, or its size.
type story struct {
	path string
	code api.Errno
	size int
}

// storyOf tells the story of the tree n, whose root lies at the end of the names, behind size bytes.
func storyOf(n api.Node, names []string, size int) story {
	bad := func(code api.Errno) story { return story{path: strings.Join(names, "/"), code: code} }
	if len(names) == 0 {
		size = frame("depot-archive-1")
	}
	words := map[api.Kind][]string{
		api.File: {"(", "type", "regular", "contents", n.Text, ")"},
		api.Link: {"(", "type", "symlink", "target", n.Text, ")"},
		api.Dir:  {"(", "type", "directory", ")"},
	}[n.Kind]
	if n.Exec {
		words = append(words, "executable", "")
	}
	switch {
	case len(names) > 31:
		return bad(api.ErrDeep)
	case n.Kind == api.File && len(n.Kids) != 0:
		return bad(api.ErrField)
	case n.Kind == api.Link && (len(n.Kids) != 0 || n.Exec):
		return bad(api.ErrField)
	case n.Kind == api.Link && (n.Text == "" || strings.ContainsRune(n.Text, 0)):
		return bad(api.ErrTarget)
	case n.Kind == api.Dir && (n.Text != "" || n.Exec):
		return bad(api.ErrField)
	case n.Kind != api.File && n.Kind != api.Link && n.Kind != api.Dir:
		return bad(api.ErrKind)
	}
	size += frame(words...)
	if size > api.MaxArchive {
		return bad(api.ErrBig)
	}
	for i, kid := range n.Kids {
		way := append(slices.Clone(names), kid.Name)
		code := name.Check(kid.Name)
		if code == api.OK && i > 0 && kid.Name <= n.Kids[i-1].Name {
			code = api.ErrOrder
		}
		size += frame("entry", "(", "name", kid.Name, "node", ")")
		if code == api.OK && size > api.MaxArchive {
			code = api.ErrBig
		}
		if code != api.OK {
			return story{path: strings.Join(way, "/"), code: code}
		}
		below := storyOf(kid.Node, way, size)
		if below.code != api.OK {
			return below
		}
		size = below.size
	}
	return story{size: size}
}

// rowsOf: the rows of a well-formed tree, the root's at that path.
func rowsOf(n api.Node, path string) []tree.Row {
	rows := []tree.Row{{Path: path, Kind: n.Kind, Exec: n.Exec, Text: n.Text}}
	for _, kid := range n.Kids {
		below := path + "/" + kid.Name
		if path == "" {
			below = kid.Name
		}
		rows = append(rows, rowsOf(kid.Node, below)...)
	}
	return rows
}

// randomTree: a well-formed tree.
func randomTree(r *rand.Rand, levels int) api.Node {
	switch k := r.Intn(8); {
	case levels > 0 && k > 2:
		n := dir()
		for _, s := range []string{"a", "a!", "a.b", "ab", "b", "\xff"} {
			if r.Intn(2) == 0 {
				n.Kids = append(n.Kids, in(s, randomTree(r, levels-1)))
			}
		}
		return n
	case k == 0:
		return link(strings.Repeat("t", 1+r.Intn(9)))
	case k == 1:
		return exec("")
	}
	return file(strings.Repeat("c", r.Intn(20)))
}

// randomPath: mostly a path that randomTree may have.
func randomPath(r *rand.Rand) string {
	var names []string
	for range r.Intn(4) {
		names = append(names, []string{"a", "a!", "a.b", "ab", "b", "\xff", "A", "c", "a", "b"}[r.Intn(10)])
	}
	if r.Intn(20) == 0 {
		names = append(names, []string{"", ".", "x\x00", strings.Repeat("n", 256)}[r.Intn(4)])
	}
	return strings.Join(names, "/")
}

// nodes: the places of all nodes of a tree, in its own memory.
func nodes(n *api.Node) []*api.Node {
	all := []*api.Node{n}
	for i := range n.Kids {
		all = append(all, nodes(&n.Kids[i].Node)...)
	}
	return all
}

// spoil makes one random change that may leave the tree not well-formed.
func spoil(r *rand.Rand, n *api.Node) {
	all := nodes(n)
	at := all[r.Intn(len(all))]
	switch r.Intn(9) {
	case 0:
		at.Kind = api.Kind(r.Intn(7) - 2)
	case 1:
		at.Exec = !at.Exec
	case 2:
		at.Text = []string{"", "x", "a\x00"}[r.Intn(3)]
	case 3:
		at.Kids = append(at.Kids, in("zz", file("")))
	case 4, 5:
		if len(at.Kids) > 0 {
			bad := []string{"", ".", "..", "/", "a/b", "a\x00", strings.Repeat("n", 256), "a", "b", "..."}
			at.Kids[r.Intn(len(at.Kids))].Name = bad[r.Intn(len(bad))]
		}
	case 6:
		if len(at.Kids) > 1 {
			at.Kids[0], at.Kids[1] = at.Kids[1], at.Kids[0]
		}
	case 7:
		*at = nested(26+r.Intn(8), *at)
	case 8:
		at.Text = strings.Repeat("x", api.MaxArchive-r.Intn(2000))
	}
}

// scribble changes all that can be changed of a tree in place, spare room too.
func scribble(n *api.Node) {
	kids := n.Kids[:cap(n.Kids)]
	for i := range kids {
		scribble(&kids[i].Node)
		kids[i].Name += "!"
	}
	n.Kind, n.Text = api.Link, n.Text+"!"
}

// frozen: a copy of a tree, its spare room too, that shares nothing with it.
func frozen(n api.Node) api.Node {
	kids := n.Kids[:cap(n.Kids)]
	n.Kids = make([]api.Entry, len(kids))
	for i, kid := range kids {
		n.Kids[i] = in(kid.Name, frozen(kid.Node))
	}
	return n
}
