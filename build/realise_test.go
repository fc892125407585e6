package build_test

import (
	"fmt"
	"math/rand"
	"slices"
	"strings"
	"testing"

	"depot/api"
	"depot/build"
	"depot/recipe"
	"depot/store"
	"depot/tree"
)

// holdRefs: what was made under the name refers to what was made under these names, and nothing else.
func holdRefs(t *testing.T, s *store.Store, all []build.Made, name string, uses ...string) {
	t.Helper()
	var want []string
	for _, use := range uses {
		want = append(want, pathOf(all, use))
	}
	slices.Sort(want)
	if refs, code := s.Refs(pathOf(all, name)); code != api.OK || !slices.Equal(refs, want) {
		t.Errorf("%s refers to %q, not %q (%d)", name, refs, want, code)
	}
}

// pathOf: the path of what was made under a name.
func pathOf(all []build.Made, name string) string {
	for _, m := range all {
		if m.Name == name {
			return m.Path
		}
	}
	return ""
}

func TestRealise(t *testing.T) { // P22.4
	s := store.New()
	recipes := []recipe.Recipe{
		of("high", "low", "path low ref", "copy low x y", "join y y z"),
		of("low", "", "file x hello"),
		of("other", ""),
	}
	all := holdRealise(t, s, recipes, "high")
	low, _ := store.New().Add("low", dir(in("x", file("hello"))), nil)
	tree2 := dir(in("ref", file(low)), in("y", file("hello")), in("z", file("hellohello")))
	other := store.New()
	other.Add("low", dir(in("x", file("hello"))), nil)
	high, _ := other.Add("high", tree2, []string{low})
	if !slices.Equal(all, []build.Made{{Name: "low", Path: low}, {Name: "high", Path: high}}) {
		t.Errorf("Realise = %v", all)
	}
	if !sameStores(s, other) {
		t.Errorf("the store has %v, not %v", asked(s), asked(other))
	}
	if r, code := s.Get(high); code != api.OK || !tree.Equal(r.Tree, tree2) || !slices.Equal(r.Refs, []string{low}) {
		t.Errorf("high is %v, %d", r, code)
	}
	holdRealise(t, s, recipes, "low")
	if s.Len() != 2 {
		t.Errorf("Len = %d", s.Len())
	}
	holdRealise(t, s, recipes, "other")
	if s.Len() != 3 {
		t.Errorf("Len = %d", s.Len())
	}
}

func TestRealiseRefs(t *testing.T) { // P22.4: just those whose hashes stand in the archive, of all that is reached
	recipes := []recipe.Recipe{
		of("a", "", "file x 1"),
		of("b", "a", "path a ref", "file y 2"),     // refers to a
		of("c", "a b", "copy a x x", "copy b y y"), // uses both, refers to none
		of("d", "b", "copy b ref ref"),             // b isn't named, but a, at second hand
		of("e", "b d", "copy d % sub", "path b b"), // both, in trees
		of("f", "c", "path c c", "copy c x x"),     // c alone
		of("g", "c e f", "path c 1", "path e 2", "path f 3", "join 1 2 4", "join 4 3 all", "cut 1", "cut 2", "cut 3", "cut 4"),
		of("h", "g", "copy g all h", "cut h"), // it stood there, but stands no more
		of("i", "b", "path b x", "exec x none"),
		of("j", "g", "copy g all all"), // what g refers to, at second hand
	}
	s := store.New()
	all := holdRealise(t, s, recipes, "e")
	holdRefs(t, s, all, "a")
	holdRefs(t, s, all, "b", "a")
	holdRefs(t, s, all, "d", "a")
	holdRefs(t, s, all, "e", "a", "b")
	all = holdRealise(t, s, recipes, "j")
	holdRefs(t, s, all, "c")
	holdRefs(t, s, all, "f", "c")
	holdRefs(t, s, all, "g", "c", "e", "f")
	holdRefs(t, s, all, "j", "c", "e", "f")
	holdRefs(t, s, holdRealise(t, s, recipes, "h"), "h")
	holdRefs(t, s, holdRealise(t, s, recipes, "i"), "i")
}

func TestRealiseRefsAnywhere(t *testing.T) { // P22.4: in contents, targets, names and labels; all 32 letters; of the closure alone
	low := of("low", "", "file x hello")
	path, _ := store.New().Add("low", dir(in("x", file("hello"))), nil)
	hash := hashOf(path)
	rows := []struct {
		line  string
		found bool
	}{
		{"file x " + hash, true},
		{"exec x " + path, true},
		{"file x before" + hash + "behind", true},
		{"file x " + hash[1:] + hash, true},
		{"link x " + hash, true},
		{"link x ../" + hash + "-other/bin", true},
		{"file " + hash + " x", true},
		{"dir " + hash, true},
		{"dir x" + hash + "y", true},
		{"file x " + hash[1:], false},
		{"file x " + hash[:31] + "-" + hash[31:], false},
		{"file x " + strings.ToUpper(hash), false},
		{"file x low", false},
		{"file x " + hash[:31], false},
	}
	for _, row := range rows {
		s := store.New()
		all := holdRealise(t, s, []recipe.Recipe{low, of("high", "low", row.line)}, "high")
		if row.found {
			holdRefs(t, s, all, "high", "low")
		} else {
			holdRefs(t, s, all, "high")
		}
		// Without the dependency the path isn't reached, though the store has it.
		all = holdRealise(t, s, []recipe.Recipe{low, of("alone", "", row.line)}, "alone")
		holdRefs(t, s, all, "alone")
		// Nor is it where it is used by what doesn't refer to it.
		all = holdRealise(t, s, []recipe.Recipe{low, of("mid", "low"), of("far", "mid", row.line)}, "far")
		holdRefs(t, s, all, "far")
	}
}

func TestRealiseFails(t *testing.T) { // P22.4: Plan's error, a step's, Add's; nothing is made
	good := of("good", "", "file x good")
	rows := []struct {
		recipes []recipe.Recipe
		want    string
		failure build.Failure
	}{
		{[]recipe.Recipe{good}, "none", build.Failure{Name: "none", Step: -1, Code: api.ErrMissing}},
		{[]recipe.Recipe{good}, "", build.Failure{Name: "", Step: -1, Code: api.ErrMissing}},
		{[]recipe.Recipe{good, of("a", "good none", "cut x")}, "a", build.Failure{Name: "none", Step: -1, Code: api.ErrMissing}},
		{[]recipe.Recipe{good, of("a", "b good"), of("b", "a")}, "b", build.Failure{Name: "a", Step: -1, Code: api.ErrCycle}},
		{[]recipe.Recipe{good, of("a", "good", "path good x", "cut y")}, "a", build.Failure{Name: "a", Step: 1, Code: api.ErrMissing}},
		{[]recipe.Recipe{good, of("a", "good", "copy good y y")}, "a", build.Failure{Name: "a", Step: 0, Code: api.ErrMissing}},
		{[]recipe.Recipe{good, of("z", "a b good"), of("a", "", "dir a"), of("b", "", "dir a", "dir b", "join a b c")}, "z", build.Failure{Name: "b", Step: 2, Code: api.ErrNotFile}},
		{[]recipe.Recipe{good, of("a", "b good", "cut x"), of("b", "", "cut y")}, "a", build.Failure{Name: "b", Step: 0, Code: api.ErrMissing}},
	}
	for _, row := range rows {
		s := store.New()
		s.Add("kept", file("kept"), nil)
		holdRealise(t, s, row.recipes, row.want)
		all, err := bookOf(t, row.recipes...).Realise(s, row.want)
		holdFailure(t, err, row.failure)
		if len(all) != 0 || s.Len() != 1 {
			t.Errorf("%v beside %v, and %d paths", all, err, s.Len())
		}
		holdRealise(t, s, row.recipes, "good") // the store goes on
		if s.Len() != 2 {
			t.Errorf("Len = %d", s.Len())
		}
	}
}

func TestRealiseClash(t *testing.T) { // P22.4: the path that is made has another tree already: Add's error
	recipes := []recipe.Recipe{of("base", "", "file x x"), of("low", "base", "file y y"), of("high", "low", "path low ref")}
	all, _ := bookOf(t, recipes...).Realise(store.New(), "high")
	for _, name := range []string{"base", "low"} {
		s := store.New()
		other := store.New()
		path, _ := other.Add("other", file("other"), nil)
		r, _ := other.Get(path)
		r.Path = pathOf(all, name)
		if code := s.Insert(r); code != api.OK {
			t.Fatal(code)
		}
		holdRealise(t, s, recipes, "high")
		_, err := bookOf(t, recipes...).Realise(s, "high")
		holdFailure(t, err, build.Failure{Name: name, Step: -1, Code: api.ErrClash})
		if s.Len() != 1 {
			t.Errorf("%d paths", s.Len())
		}
	}
}

func TestRealiseOfManyRefs(t *testing.T) { // P22.4: MaxRefs references; one more is Add's error
	var recipes []recipe.Recipe
	var names []string
	for i := range api.MaxRefs + 1 {
		name := fmt.Sprintf("n%04d", i)
		recipes, names = append(recipes, of(name, "", "file x "+name)), append(names, name)
	}
	user := func(name string, deps []string) recipe.Recipe {
		r := recipe.Recipe{Name: name, Deps: deps}
		for i, dep := range deps {
			r.Steps = append(r.Steps, steps("path "+dep+" "+fmt.Sprint(i))...)
		}
		return r
	}
	recipes = append(recipes, user("most", names[:api.MaxRefs]), user("over", names))
	b := bookOf(t, recipes...)
	s := store.New()
	if all, err := b.Realise(s, "over"); len(all) != 0 || s.Len() != 0 {
		t.Errorf("%d made, %d paths", len(all), s.Len())
	} else {
		holdFailure(t, err, build.Failure{Name: "over", Step: -1, Code: api.ErrMany})
	}
	all, err := b.Realise(s, "most")
	if err != nil || len(all) != api.MaxRefs+1 || s.Len() != api.MaxRefs+1 {
		t.Fatalf("%d made, %d paths, %v", len(all), s.Len(), err)
	}
	if refs, _ := s.Refs(pathOf(all, "most")); len(refs) != api.MaxRefs {
		t.Errorf("%d references", len(refs))
	}
}

func TestRealiseAddsToWhatIsThere(t *testing.T) { // P22.4, P2: some of it is there; other things stay; the depot's forks too
	recipes := []recipe.Recipe{of("a", "", "file x 1"), of("b", "a", "path a r"), of("c", "b", "path b r")}
	s := store.New()
	kept, _ := s.Add("a", file("another tree, the same label"), nil)
	user, _ := s.Add("user", file("x"), []string{kept})
	a, _ := s.Add("a", dir(in("x", file("1"))), nil)
	before := s.Fork()
	paths := before.Paths()
	all := holdRealise(t, s, recipes, "c")
	if pathOf(all, "a") != a || s.Len() != 5 || !s.Has(user) {
		t.Errorf("made %v, the store has %q", all, s.Paths())
	}
	if !slices.Equal(before.Paths(), paths) {
		t.Error("the fork has changed")
	}
	if code := s.Cut(a); code != api.ErrInUse {
		t.Errorf("Cut = %d", code)
	}
	for _, m := range slices.Backward(all) {
		if code := s.Cut(m.Path); code != api.OK {
			t.Errorf("Cut of %s = %d", m.Name, code)
		}
	}
}

func TestRealiseOfTheSameHash(t *testing.T) { // P22.4: what stands under a path that the closure doesn't reach isn't referred to, whatever its hash
	low := of("low", "", "file x hello")
	path, _ := store.New().Add("low", dir(in("x", file("hello"))), nil)
	s := store.New()
	twin := "/depot/store/" + hashOf(path) + "-twin"
	r := api.Record{Path: twin, Tree: file("twin")}
	other := store.New()
	p, _ := other.Add("twin", file("twin"), nil)
	kept, _ := other.Get(p)
	r.Hash, r.Size = kept.Hash, kept.Size
	if code := s.Insert(r); code != api.OK {
		t.Fatal(code)
	}
	all := holdRealise(t, s, []recipe.Recipe{low, of("high", "low", "path low ref")}, "high")
	holdRefs(t, s, all, "high", "low")
}

func TestRealiseOfRandom(t *testing.T) { // P22.4
	r := rand.New(rand.NewSource(3))
	seen := map[api.Errno]int{}
	for range 1500 {
		recipes := randomBook(r, 1+r.Intn(7), 2, r.Intn(8) > 0)
		for i := range recipes {
			recipes[i].Steps = randomSteps(r, recipes[i].Deps, 3)
		}
		if r.Intn(8) == 0 {
			recipes = recipes[1:]
		}
		s := store.New()
		s.Add("kept", file("kept"), nil)
		for range 2 {
			want := fmt.Sprintf("n%d", r.Intn(7))
			holdRealise(t, s, recipes, want)
			_, failure := realised(s.Fork(), recipes, want)
			if failure == nil {
				failure = &build.Failure{}
			}
			seen[failure.Code]++
		}
	}
	for _, code := range []api.Errno{api.OK, api.ErrMissing, api.ErrCycle, api.ErrNotFile, api.ErrNotDir} {
		if seen[code] < 20 {
			t.Errorf("only %d times %d", seen[code], code)
		}
	}
}
