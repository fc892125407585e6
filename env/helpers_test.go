package env_test

import (
	"fmt"
	"maps"
	"math"
	"math/rand"
	"slices"
	"strings"

	"depot/api"
	"depot/env"
	"depot/tree"
)

func file(text string) api.Node { return api.Node{Kind: api.File, Text: text} }

func exec(text string) api.Node { return api.Node{Kind: api.File, Exec: true, Text: text} }

func link(target string) api.Node { return api.Node{Kind: api.Link, Text: target} }

func dir(kids ...api.Entry) api.Node { return api.Node{Kind: api.Dir, Kids: kids} }

func in(name string, n api.Node) api.Entry { return api.Entry{Name: name, Node: n} }

// one: a directory with that node under a.
func one(n api.Node) api.Node { return dir(in("a", n)) }

// nested: a node below so many directories.
func nested(levels int, n api.Node) api.Node {
	for range levels {
		n = dir(in("d", n))
	}
	return n
}

func part(n api.Node, prio float64) env.Part { return env.Part{Tree: n, Prio: prio} }

// show: a tree as a text, each unlike every other's.
func show(n api.Node) string {
	switch {
	case n.Kind == api.File && !n.Exec:
		return fmt.Sprintf("%q", n.Text)
	case n.Kind == api.File:
		return fmt.Sprintf("!%q", n.Text)
	case n.Kind == api.Link:
		return fmt.Sprintf("->%q", n.Text)
	case n.Kind != api.Dir:
		return fmt.Sprintf("%d", n.Kind)
	}
	var kids []string
	for _, kid := range n.Kids {
		kids = append(kids, kid.Name+":"+show(kid.Node))
	}
	return "{" + strings.Join(kids, " ") + "}"
}

func showParts(parts []env.Part) string {
	var list []string
	for _, p := range parts {
		list = append(list, fmt.Sprintf("%v %s", p.Prio, show(p.Tree)))
	}
	return strings.Join(list, ", ")
}

// united is a second reading of the union of well-formed trees at the end of the names: the tree, or the path of the first conflict and false.
func united(names []string, parts []env.Part) (api.Node, string, bool) {
	dirs := func(parts []env.Part) bool {
		for _, p := range parts {
			if p.Tree.Kind != api.Dir {
				return false
			}
		}
		return true
	}
	if !dirs(parts) {
		byPrio := slices.Clone(parts)
		slices.SortFunc(byPrio, func(x, y env.Part) int {
			if x.Prio < y.Prio {
				return -1
			} else if x.Prio > y.Prio {
				return 1
			}
			return 0
		})
		least := 0
		for least < len(byPrio) && byPrio[least].Prio == byPrio[0].Prio {
			least++
		}
		parts = byPrio[:least]
		if !dirs(parts) {
			for _, p := range parts {
				if show(p.Tree) != show(parts[0].Tree) {
					return api.Node{}, strings.Join(names, "/"), false
				}
			}
			return parts[0].Tree, "", true
		}
	}
	under := map[string][]env.Part{}
	for _, p := range parts {
		for _, kid := range p.Tree.Kids {
			under[kid.Name] = append(under[kid.Name], part(kid.Node, p.Prio))
		}
	}
	whole := dir()
	for _, s := range slices.Sorted(maps.Keys(under)) {
		n, path, ok := united(append(slices.Clone(names), s), under[s])
		if !ok {
			return api.Node{}, path, false
		}
		whole.Kids = append(whole.Kids, in(s, n))
	}
	return whole, "", true
}

// answerOf is a second reading of all of Union.
func answerOf(parts []env.Part) (api.Node, string, api.Errno) {
	for _, p := range parts {
		if p.Prio != p.Prio {
			return api.Node{}, "", api.ErrPrio
		}
		if _, code := tree.Check(p.Tree); code != api.OK {
			return api.Node{}, "", code
		}
	}
	if len(parts) == 0 {
		return api.Node{}, "", api.ErrNone
	}
	n, path, ok := united(nil, parts)
	if !ok {
		return api.Node{}, path, api.ErrConflict
	}
	if path, code := tree.Check(n); code != api.OK {
		return api.Node{}, path, code
	}
	return n, "", api.OK
}

// randomTree: a well-formed tree of few names and contents, so that trees are often alike.
func randomTree(r *rand.Rand, levels int) api.Node {
	if levels == 0 || r.Intn(4) == 0 {
		leaves := []api.Node{file("x"), file("x"), file("y"), exec("x"), link("x"), dir()}
		return tree.Copy(leaves[r.Intn(len(leaves))])
	}
	n := dir()
	for _, s := range []string{"a", "a!", "b", "c"} {
		if r.Intn(3) == 0 {
			n.Kids = append(n.Kids, in(s, randomTree(r, levels-1)))
		}
	}
	return n
}

func randomPrio(r *rand.Rand) float64 {
	prios := []float64{0, 0, math.Copysign(0, -1), 1, 1, 1, 1, math.Nextafter(1, 2), -1, math.Inf(1), math.Inf(-1), 5e-324, 1e300}
	return prios[r.Intn(len(prios))]
}

// roomy: the same tree with spare room behind each list of it, in files and links too.
func roomy(n api.Node) api.Node {
	kids := make([]api.Entry, 0, len(n.Kids)+2)
	for _, kid := range n.Kids {
		kids = append(kids, in(kid.Name, roomy(kid.Node)))
	}
	n.Kids = kids
	return n
}

// frozen: all that a tree's memory holds, its spare room too.
func frozen(n api.Node) string {
	var b strings.Builder
	fmt.Fprint(&b, n.Kind, n.Exec, n.Text, len(n.Kids), cap(n.Kids))
	for _, kid := range n.Kids[:cap(n.Kids)] {
		fmt.Fprint(&b, kid.Name, "(", frozen(kid.Node), ")")
	}
	return b.String()
}

// scribble writes over all memory that can be reached from a tree, spare room too.
func scribble(n api.Node) {
	kids := n.Kids[:cap(n.Kids)]
	for i := range kids {
		scribble(kids[i].Node)
		kids[i] = in("scribbled", file("scribbled"))
	}
}
