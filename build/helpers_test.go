package build_test

import (
	"errors"
	"fmt"
	"math/rand"
	"reflect"
	"slices"
	"strings"
	"testing"

	"depot/api"
	"depot/build"
	"depot/nar"
	"depot/recipe"
	"depot/store"
	"depot/tree"
)

func file(text string) api.Node { return api.Node{Kind: api.File, Text: text} }

func exec(text string) api.Node { return api.Node{Kind: api.File, Exec: true, Text: text} }

func link(target string) api.Node { return api.Node{Kind: api.Link, Text: target} }

func dir(kids ...api.Entry) api.Node { return api.Node{Kind: api.Dir, Kids: kids} }

func in(name string, n api.Node) api.Entry { return api.Entry{Name: name, Node: n} }

// nested: a node below so many directories.
func nested(levels int, n api.Node) api.Node {
	for range levels {
		n = dir(in("d", n))
	}
	return n
}

func fault(code api.Errno, at int) api.Fault { return api.Fault{Code: code, At: at} }

// steps: a step a line, its words parted by blanks; % is the empty text.
func steps(lines ...string) []recipe.Step {
	var list []recipe.Step
	for _, line := range lines {
		words := strings.Split(line, " ")
		for i := range words {
			if words[i] == "%" {
				words[i] = ""
			}
		}
		list = append(list, recipe.Step{Op: words[0], Args: words[1:]})
	}
	return list
}

// of: a recipe; its dependencies are parted by blanks.
func of(name, deps string, lines ...string) recipe.Recipe {
	return recipe.Recipe{Name: name, Deps: strings.Fields(deps), Steps: steps(lines...)}
}

// bookOf: a book of these recipes.
func bookOf(t *testing.T, recipes ...recipe.Recipe) *build.Book {
	t.Helper()
	var texts []string
	for _, r := range recipes {
		texts = append(texts, recipe.Print(r))
	}
	b, f := build.NewBook(texts)
	if b == nil || f != (api.Fault{}) {
		t.Fatalf("NewBook = %v, %v", b, f)
	}
	return b
}

// holdFailure: the error is this Failure itself, and wraps its code.
func holdFailure(t *testing.T, err error, want build.Failure) {
	t.Helper()
	f, is := err.(*build.Failure)
	if !is || f == nil || *f != want {
		t.Fatalf("the error is %T %v, not %v", err, err, &want)
	}
	if !errors.Is(err, want.Code) || f.Unwrap() != error(want.Code) {
		t.Fatalf("%v doesn't wrap its code", err)
	}
	if text := fmt.Sprintf("%s step %d: errno %d", want.Name, want.Step, int(want.Code)); err.Error() != text {
		t.Fatalf("Error() = %q, not %q", err.Error(), text)
	}
}

// plan is a second reading of P22.2.
func plan(recipes []recipe.Recipe, want string) ([]string, *build.Failure) {
	find := func(name string) *recipe.Recipe {
		for i := range recipes {
			if recipes[i].Name == name {
				return &recipes[i]
			}
		}
		return nil
	}
	needed := []string{want}
	for size := 0; size != len(needed); {
		size = len(needed)
		for _, name := range needed {
			if r := find(name); r != nil {
				needed = append(needed, r.Deps...)
			}
		}
		slices.Sort(needed)
		needed = slices.Compact(needed)
	}
	for _, name := range needed {
		if find(name) == nil {
			return nil, &build.Failure{Name: name, Step: -1, Code: api.ErrMissing}
		}
	}
	var order []string
	for len(needed) > 0 {
		next := slices.IndexFunc(needed, func(name string) bool {
			for _, dep := range find(name).Deps {
				if !slices.Contains(order, dep) {
					return false
				}
			}
			return true
		})
		if next < 0 {
			return nil, &build.Failure{Name: needed[0], Step: -1, Code: api.ErrCycle}
		}
		order = append(order, needed[next])
		needed = slices.Delete(needed, next, next+1)
	}
	return order, nil
}

// made is a second reading of P22.3.
func made(r recipe.Recipe, inputs []build.Input) (api.Node, *build.Failure) {
	if f := recipe.Check(r); f.Code != api.OK {
		return api.Node{}, &build.Failure{Name: r.Name, Step: -1, Code: f.Code}
	}
	for _, dep := range r.Deps {
		if !slices.ContainsFunc(inputs, func(i build.Input) bool { return i.Name == dep }) {
			return api.Node{}, &build.Failure{Name: r.Name, Step: -1, Code: api.ErrMissing}
		}
	}
	now := dir()
	for i, s := range r.Steps {
		next, code := done(now, s, inputs)
		if code != api.OK {
			return api.Node{}, &build.Failure{Name: r.Name, Step: i, Code: code}
		}
		now = next
	}
	return now, nil
}

// done: the tree behind a step.
func done(now api.Node, s recipe.Step, inputs []build.Input) (api.Node, api.Errno) {
	var input build.Input
	for _, i := range slices.Backward(inputs) {
		if i.Name == s.Args[0] {
			input = i
		}
	}
	switch s.Op {
	case "file":
		return tree.Put(now, s.Args[0], file(s.Args[1]))
	case "exec":
		return tree.Put(now, s.Args[0], exec(s.Args[1]))
	case "link":
		return tree.Put(now, s.Args[0], link(s.Args[1]))
	case "dir":
		return tree.Put(now, s.Args[0], dir())
	case "cut":
		return tree.Cut(now, s.Args[0])
	case "path":
		return tree.Put(now, s.Args[1], file(input.Path))
	case "copy":
		sub, code := tree.Get(input.Tree, s.Args[1])
		if code != api.OK {
			return api.Node{}, code
		}
		return tree.Put(now, s.Args[2], sub)
	}
	a, code := tree.Get(now, s.Args[0])
	if code != api.OK {
		return api.Node{}, code
	}
	b, code := tree.Get(now, s.Args[1])
	if code != api.OK {
		return api.Node{}, code
	}
	if a.Kind != api.File || b.Kind != api.File {
		return api.Node{}, api.ErrNotFile
	}
	return tree.Put(now, s.Args[2], api.Node{Kind: api.File, Exec: a.Exec, Text: a.Text + b.Text})
}

// realised is a second reading of P22.4: it changes the store, and with a Failure what was changed is to be thrown away.
func realised(s *store.Store, recipes []recipe.Recipe, want string) ([]build.Made, *build.Failure) {
	order, failure := plan(recipes, want)
	if failure != nil {
		return nil, failure
	}
	paths := map[string]string{}
	var all []build.Made
	for _, name := range order {
		r := recipes[slices.IndexFunc(recipes, func(r recipe.Recipe) bool { return r.Name == name })]
		var inputs []build.Input
		var roots []string
		for _, dep := range r.Deps {
			kept, _ := s.Get(paths[dep])
			inputs = append(inputs, build.Input{Name: dep, Path: paths[dep], Tree: kept.Tree})
			roots = append(roots, paths[dep])
		}
		n, failure := made(r, inputs)
		if failure != nil {
			return nil, failure
		}
		archive, _ := nar.Serial(n)
		reached, _ := s.Closure(roots)
		var refs []string
		for _, path := range reached {
			if strings.Contains(archive, hashOf(path)) {
				refs = append(refs, path)
			}
		}
		path, code := s.Add(name, n, refs)
		if code != api.OK {
			return nil, &build.Failure{Name: name, Step: -1, Code: code}
		}
		paths[name] = path
		all = append(all, build.Made{Name: name, Path: path})
	}
	return all, nil
}

// hashOf: the hash of a store path.
func hashOf(path string) string { return path[len("/depot/store/"):][:32] }

// asked: all that a store has.
func asked(s *store.Store) []any {
	all := []any{s.Len(), s.Bytes(), s.Paths()}
	for _, path := range s.Paths() {
		r, _ := s.Get(path)
		users, _ := s.Referrers(path)
		all = append(all, path, plainTree(r.Tree), slices.Concat([]string(nil), r.Refs), r.Hash, r.Size, users)
	}
	return all
}

func sameStores(a, b *store.Store) bool { return reflect.DeepEqual(asked(a), asked(b)) }

// plainTree: every empty list is nil, so that reflect finds the same what is the same.
func plainTree(n api.Node) api.Node {
	var kids []api.Entry
	for _, kid := range n.Kids {
		kids = append(kids, in(kid.Name, plainTree(kid.Node)))
	}
	n.Kids = kids
	return n
}

// scribbleTree writes over all memory that can be reached from a tree, spare room too.
func scribbleTree(n api.Node) {
	kids := n.Kids[:cap(n.Kids)]
	for i := range kids {
		scribbleTree(kids[i].Node)
		kids[i] = in("scribbled", file("scribbled"))
	}
}

// scribble writes over a list, its spare room too.
func scribble[T any](list []T) {
	list = list[:cap(list)]
	var zero T
	for i := range list {
		list[i] = zero
	}
}

// holdMake: Make answers what the second reading does, twice, though the first answer is written over, and changes nothing that it is given.
func holdMake(t *testing.T, r recipe.Recipe, inputs []build.Input) {
	t.Helper()
	want, failure := made(r, inputs)
	givenRecipe, given := recipe.Print(r), slices.Clone(inputs)
	for i := range given {
		given[i].Tree = tree.Copy(given[i].Tree)
	}
	for range 2 {
		n, err := build.Make(r, inputs)
		if failure != nil {
			holdFailure(t, err, *failure)
			if !tree.Equal(n, api.Node{}) {
				t.Fatalf("Make of %s = %v beside %v", givenRecipe, n, err)
			}
			continue
		}
		if err != nil || !tree.Equal(n, want) {
			t.Fatalf("Make of %s = %v, %v, not %v", givenRecipe, n, err, want)
		}
		scribbleTree(n)
	}
	if recipe.Print(r) != givenRecipe || !reflect.DeepEqual(plainInputs(inputs), plainInputs(given)) {
		t.Fatal("an argument was changed")
	}
}

func plainInputs(inputs []build.Input) []build.Input {
	list := slices.Clone(inputs)
	for i := range list {
		list[i].Tree = plainTree(list[i].Tree)
	}
	return list
}

// holdRealise: Realise answers what the second reading does, and the store is then as it says; what was made, if anything.
func holdRealise(t *testing.T, s *store.Store, recipes []recipe.Recipe, want string) []build.Made {
	t.Helper()
	before, then := s.Fork(), s.Fork()
	all, failure := realised(then, recipes, want)
	b := bookOf(t, recipes...)
	for range 2 { // the second one finds all of it there
		got, err := b.Realise(s, want)
		if failure != nil {
			holdFailure(t, err, *failure)
			if len(got) != 0 || !sameStores(s, before) {
				t.Fatalf("Realise of %q = %v beside %v, and the store has %q", want, got, err, s.Paths())
			}
			continue
		}
		if err != nil || !slices.Equal(got, all) {
			t.Fatalf("Realise of %q = %v, %v, not %v", want, got, err, all)
		}
		if !sameStores(s, then) {
			t.Fatalf("behind Realise of %q the store has %v, not %v", want, asked(s), asked(then))
		}
		scribble(got)
	}
	return all
}

// randomSteps: steps that can be done more often than not; each writes few paths.
func randomSteps(r *rand.Rand, deps []string, most int) []recipe.Step {
	paths := []string{"a", "b", "c", "d", "d/a", "d/b", "d/d", "d/d/a"}
	path := func() string { return paths[r.Intn(len(paths))] }
	list := steps("dir d", "file a x", "exec b y")
	for range r.Intn(most + 1) {
		dep := ""
		if len(deps) > 0 {
			dep = deps[r.Intn(len(deps))]
		}
		ops := []string{"file", "exec", "link", "dir", "cut", "join", "join", "copy", "copy", "path", "path"}
		switch op := ops[r.Intn(len(ops))]; op {
		case "file", "exec", "link":
			list = append(list, recipe.Step{Op: op, Args: []string{path(), path()}})
		case "dir", "cut":
			if r.Intn(3) == 0 {
				list = append(list, recipe.Step{Op: op, Args: []string{path()}})
			}
		case "join":
			list = append(list, recipe.Step{Op: op, Args: []string{path(), path(), path()}})
		case "copy":
			if dep != "" {
				from := append(paths, "")[r.Intn(len(paths)+1)]
				list = append(list, recipe.Step{Op: op, Args: []string{dep, from, path()}})
			}
		case "path":
			if dep != "" {
				list = append(list, recipe.Step{Op: op, Args: []string{dep, path()}})
			}
		}
	}
	return list
}

// randomBook: recipes by few names, of which each may use any other; few of them are missing.
func randomBook(r *rand.Rand, names int, mostDeps int, acyclic bool) []recipe.Recipe {
	var list []recipe.Recipe
	order := r.Perm(names)
	for place, i := range order {
		one := recipe.Recipe{Name: fmt.Sprintf("n%d", i)}
		for range r.Intn(mostDeps + 1) {
			other := r.Intn(names)
			if acyclic && place > 0 {
				other = order[r.Intn(place)]
			} else if acyclic {
				continue
			}
			one.Deps = append(one.Deps, fmt.Sprintf("n%d", other))
		}
		slices.Sort(one.Deps)
		one.Deps = slices.Compact(one.Deps)
		list = append(list, one)
	}
	r.Shuffle(len(list), func(i, j int) { list[i], list[j] = list[j], list[i] })
	return list
}
