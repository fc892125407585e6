package build

import (
	"slices"

	"depot/api"
	"depot/nar"
	"depot/recipe"
	"depot/scan"
	"depot/spath"
	"depot/store"
)

// works is where a plan is carried out.
type works struct {
	kept *store.Store     // as the store is to be
	made map[string]Input // by the names of their recipes
}

// Realise makes a recipe of the book and all that it needs, in the store, or nothing.
func (b *Book) Realise(s *store.Store, want string) ([]Made, error) {
	plan, err := b.Plan(want)
	if err != nil {
		return nil, err
	}
	w := works{kept: s.Fork(), made: map[string]Input{}}
	all := make([]Made, 0, len(plan))
	for _, name := range plan {
		path, err := w.realise(b.recipes[name])
		if err != nil {
			return nil, err
		}
		all = append(all, Made{Name: name, Path: path})
	}
	w.bring(s, all)
	return all, nil
}

// realise makes the tree of a recipe, behind those of its dependencies: its path.
func (w *works) realise(r recipe.Recipe) (string, error) {
	inputs := make([]Input, len(r.Deps))
	for i, dep := range r.Deps {
		inputs[i] = w.made[dep]
	}
	n, err := Make(r, inputs)
	if err != nil {
		return "", err
	}
	path, code := w.kept.Add(r.Name, n, w.refs(n, inputs))
	if code != api.OK {
		return "", &Failure{Name: r.Name, Step: noStep, Code: code}
	}
	w.made[r.Name] = Input{Name: r.Name, Path: path, Tree: n}
	return path, nil
}

// refs: of all that is reached from the inputs' paths, those paths whose hash stands in the archive of a well-formed tree, rising.
func (w *works) refs(n api.Node, inputs []Input) []string {
	roots := make([]string, len(inputs))
	for i, input := range inputs {
		roots[i] = input.Path
	}
	reached, _ := w.kept.Closure(roots) // all of them are there
	hashes := make([]string, len(reached))
	for i, path := range reached {
		hashes[i], _, _ = spath.Parse(path)
	}
	found := foundIn(n, hashes)
	var refs []string
	for i, path := range reached {
		if _, stands := slices.BinarySearch(found, hashes[i]); stands {
			refs = append(refs, path)
		}
	}
	return refs
}

// foundIn: those of the hashes that stand in the tree's archive, rising.
func foundIn(n api.Node, hashes []string) []string {
	archive, _ := nar.Serial(n)
	scanner, _ := scan.New(hashes)
	scanner.Feed([]byte(archive))
	return scanner.Found()
}

// bring: what was made comes into the store; it refuses nothing, as its fork took all of it in this order.
func (w *works) bring(s *store.Store, all []Made) {
	for _, m := range all {
		r, _ := w.kept.Get(m.Path)
		s.Insert(r)
	}
}
