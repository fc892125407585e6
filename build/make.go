package build

import (
	"errors"

	"depot/api"
	"depot/recipe"
	"depot/tree"
)

// bench is where the tree of a recipe is made.
type bench struct {
	name   string
	step   int // the place of the one that is done
	inputs map[string]Input
	tree   api.Node
}

// Make: the tree of a recipe with these inputs.
func Make(r recipe.Recipe, inputs []Input) (made api.Node, err error) {
	defer func() {
		if met := recover(); met != nil {
			made, err = api.Node{}, failureOf(met)
		}
	}()
	b := bench{name: r.Name, step: noStep, inputs: map[string]Input{}, tree: api.Node{Kind: api.Dir}}
	b.must(recipe.Check(r).Code)
	b.take(inputs, r.Deps)
	for i, step := range r.Steps {
		b.step = i
		b.do(step.Op, step.Args)
	}
	return b.tree, nil
}

// failureOf: the failure with which a bench gave up. A panic of another kind is none of its own, and goes on.
func failureOf(met any) error {
	var failure *Failure
	if err, told := met.(error); told && errors.As(err, &failure) {
		return failure
	}
	panic(met)
}

// must gives up, unless the code is OK.
func (b *bench) must(code api.Errno) {
	if code != api.OK {
		panic(&Failure{Name: b.name, Step: b.step, Code: code})
	}
}

// take lays the inputs out, among which all dependencies must be.
func (b *bench) take(inputs []Input, deps []string) {
	for _, input := range inputs {
		if _, before := b.inputs[input.Name]; !before {
			b.inputs[input.Name] = input
		}
	}
	for _, dep := range deps {
		if _, there := b.inputs[dep]; !there {
			b.must(api.ErrMissing)
		}
	}
}

// do does a step of a recipe that recipe.Check takes.
func (b *bench) do(op string, args []string) {
	switch op {
	case "file":
		b.put(args[0], api.Node{Kind: api.File, Text: args[1]})
	case "exec":
		b.put(args[0], api.Node{Kind: api.File, Exec: true, Text: args[1]})
	case "link":
		b.put(args[0], api.Node{Kind: api.Link, Text: args[1]})
	case "dir":
		b.put(args[0], api.Node{Kind: api.Dir})
	case "cut":
		b.cut(args[0])
	case "copy":
		b.put(args[2], b.get(b.inputs[args[0]].Tree, args[1]))
	case "path":
		b.put(args[1], api.Node{Kind: api.File, Text: b.inputs[args[0]].Path})
	case "join":
		b.put(args[2], b.joined(args[0], args[1]))
	}
}

func (b *bench) put(path string, n api.Node) {
	changed, code := tree.Put(b.tree, path, n)
	b.must(code)
	b.tree = changed
}

func (b *bench) cut(path string) {
	changed, code := tree.Cut(b.tree, path)
	b.must(code)
	b.tree = changed
}

// get: what stands at a path of a tree, of an input's or of the one that is made.
func (b *bench) get(n api.Node, path string) api.Node {
	found, code := tree.Get(n, path)
	b.must(code)
	return found
}

// joined: a file as the one at a path, with the contents of the one at another path behind its own.
func (b *bench) joined(path, behind string) api.Node {
	head, tail := b.get(b.tree, path), b.get(b.tree, behind)
	if head.Kind != api.File || tail.Kind != api.File {
		b.must(api.ErrNotFile)
	}
	head.Text += tail.Text
	return head
}
