package diff_test

import (
	"math/rand"
	"slices"
	"strings"

	"depot/api"
	"depot/diff"
)

func file(text string) api.Node { return api.Node{Kind: api.File, Text: text} }

func exec(text string) api.Node { return api.Node{Kind: api.File, Exec: true, Text: text} }

func link(target string) api.Node { return api.Node{Kind: api.Link, Text: target} }

func dir(kids ...api.Entry) api.Node { return api.Node{Kind: api.Dir, Kids: kids} }

func in(name string, n api.Node) api.Entry { return api.Entry{Name: name, Node: n} }

func put(path string, n api.Node) diff.Edit { return diff.Edit{Path: path, Node: n} }

func gone(path string) diff.Edit { return diff.Edit{Path: path, Gone: true} }

func fault(code api.Errno, at int) api.Fault { return api.Fault{Code: code, At: at} }

// nested: a node below so many directories, each with the one entry d.
func nested(levels int, n api.Node) api.Node {
	for range levels {
		n = dir(in("d", n))
	}
	return n
}

// show: all of a tree, written so that two trees are the same just where their texts are.
func show(n api.Node) string {
	b := strings.Repeat("x", int(n.Kind)&7)
	if n.Exec {
		b += "!"
	}
	b += "<" + strings.ReplaceAll(strings.ReplaceAll(n.Text, "%", "%%"), ">", "%)") + ">{"
	for _, kid := range n.Kids {
		b += kid.Name + "/" + show(kid.Node)
	}
	return b + "}"
}

// showEdits: all of some edits.
func showEdits(list []diff.Edit) string {
	b := ""
	for _, e := range list {
		if e.Gone {
			b += "gone "
		}
		b += e.Path + " = " + show(e.Node) + "\n"
	}
	return b
}

// kid: what a tree, or nothing, has under a name.
func kid(n *api.Node, s string) *api.Node {
	if n == nil || n.Kind != api.Dir {
		return nil
	}
	for i := range n.Kids {
		if n.Kids[i].Name == s {
			return &n.Kids[i].Node
		}
	}
	return nil
}

// namesOf: all names that the trees have at their roots, in the order of the bytes.
func namesOf(trees ...*api.Node) []string {
	var names []string
	for _, n := range trees {
		if n == nil || n.Kind != api.Dir {
			continue
		}
		for _, k := range n.Kids {
			names = append(names, k.Name)
		}
	}
	slices.Sort(names)
	return slices.Compact(names)
}

// pathTo: the path of some names.
func pathTo(names []string, s string) []string { return append(slices.Clone(names), s) }

// editsOf: the edits at a path at which x and y stand, by the document's words.
func editsOf(names []string, x, y api.Node) []diff.Edit {
	path := strings.Join(names, "/")
	if show(x) == show(y) {
		return nil
	}
	if x.Kind != api.Dir || y.Kind != api.Dir {
		return []diff.Edit{put(path, y)}
	}
	var list []diff.Edit
	for _, s := range namesOf(&x, &y) {
		way := pathTo(names, s)
		a, b := kid(&x, s), kid(&y, s)
		if b == nil {
			list = append(list, gone(strings.Join(way, "/")))
		} else if a == nil {
			list = append(list, put(strings.Join(way, "/"), *b))
		} else {
			list = append(list, editsOf(way, *a, *b)...)
		}
	}
	return list
}

// alike: are two nodes, or nothings, the same?
func alike(a, b *api.Node) bool {
	if a == nil || b == nil {
		return a == nil && b == nil
	}
	return show(*a) == show(*b)
}

// mergeOf: the merge at a path, nil for nothing, and the paths that clash, by the document's words.
func mergeOf(names []string, o, x, y *api.Node) (*api.Node, []string) {
	if alike(x, y) {
		return x, nil
	}
	if alike(o, y) {
		return x, nil
	}
	if alike(o, x) {
		return y, nil
	}
	if x != nil && y != nil && x.Kind == api.Dir && y.Kind == api.Dir {
		merged := dir()
		var clashes []string
		for _, s := range namesOf(o, x, y) {
			n, more := mergeOf(pathTo(names, s), kid(o, s), kid(x, s), kid(y, s))
			clashes = append(clashes, more...)
			if n != nil {
				merged.Kids = append(merged.Kids, in(s, *n))
			}
		}
		return &merged, clashes
	}
	return x, []string{strings.Join(names, "/")}
}

// randomTree: a well-formed tree.
func randomTree(r *rand.Rand, levels int) api.Node {
	switch k := r.Intn(8); {
	case levels > 0 && k > 2:
		n := dir()
		for _, s := range []string{"a", "a!", "a.b", "ab", "b", "\xff"} {
			if r.Intn(3) > 0 {
				n.Kids = append(n.Kids, in(s, randomTree(r, levels-1)))
			}
		}
		return n
	case k == 0:
		return link([]string{"s", "t"}[r.Intn(2)])
	case k == 1:
		return exec("")
	}
	return file([]string{"", "s", "t"}[r.Intn(3)])
}

// changed: a copy of a well-formed tree with some of its nodes others, some out, some new.
func changed(r *rand.Rand, n api.Node, levels int) api.Node {
	if r.Intn(8) == 0 {
		return randomTree(r, levels)
	}
	if n.Kind != api.Dir {
		return n
	}
	m := dir()
	for _, s := range namesOf(&n, &api.Node{Kind: api.Dir, Kids: []api.Entry{in("a", n), in("b", n), in("m", n)}}) {
		there := kid(&n, s)
		switch k := r.Intn(8); {
		case there == nil && k == 0 && levels > 0:
			m.Kids = append(m.Kids, in(s, randomTree(r, levels-1)))
		case there != nil && k > 0:
			m.Kids = append(m.Kids, in(s, changed(r, *there, levels-1)))
		}
	}
	return m
}

// scribble changes all that can be changed of a tree in place, spare room too.
func scribble(n *api.Node) {
	kids := n.Kids[:cap(n.Kids)]
	for i := range kids {
		scribble(&kids[i].Node)
		kids[i].Name += "!"
	}
	n.Kind, n.Text = api.Link, n.Text+"!"
}

// frozen: a copy of a tree, its spare room too, that shares nothing with it.
func frozen(n api.Node) api.Node {
	kids := n.Kids[:cap(n.Kids)]
	n.Kids = make([]api.Entry, len(kids))
	for i, kid := range kids {
		n.Kids[i] = in(kid.Name, frozen(kid.Node))
	}
	return n
}
