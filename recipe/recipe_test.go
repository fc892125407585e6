package recipe_test

import (
	"crypto/sha256"
	"math/rand"
	"slices"
	"strings"
	"testing"

	"depot/api"
	"depot/recipe"
)

func holdCheck(t *testing.T, r recipe.Recipe, want api.Fault) {
	t.Helper()
	before := printed(r)
	if got := recipe.Check(r); got != want {
		t.Errorf("Check(%s) = %v, not %v", before, got, want)
	}
	if printed(r) != before {
		t.Errorf("Check changed %s", before)
	}
}

func TestCheckName(t *testing.T) { // P21.1
	long := strings.Repeat("l", 211)
	for _, name := range []string{"a", "high-1.2", "+", "?=_", long} {
		holdCheck(t, recipe.Recipe{Name: name}, api.Fault{})
	}
	for _, name := range []string{"", ".", ".a", "a b", "a/b", "a\n", "\x00", "ä", long + "l"} {
		holdCheck(t, recipe.Recipe{Name: name}, fault(api.ErrName, 0))
		holdCheck(t, recipe.Recipe{Name: name, Deps: []string{"b", "a"}, Steps: []recipe.Step{step("x")}}, fault(api.ErrName, 0))
	}
}

func TestCheckDeps(t *testing.T) { // P21.1
	rows := []struct {
		deps []string
		want api.Fault
	}{
		{nil, api.Fault{}},
		{[]string{}, api.Fault{}},
		{[]string{"b"}, api.Fault{}},
		{[]string{"a"}, api.Fault{}}, // its own name: Plan finds the circle
		{[]string{"A", "a", "a.", "b"}, api.Fault{}},
		{[]string{"10", "9"}, api.Fault{}},
		{[]string{strings.Repeat("l", 211)}, api.Fault{}},

		{[]string{""}, fault(api.ErrRefs, 0)},
		{[]string{".a"}, fault(api.ErrRefs, 0)},
		{[]string{"a/b"}, fault(api.ErrRefs, 0)},
		{[]string{strings.Repeat("l", 212)}, fault(api.ErrRefs, 0)},
		{[]string{"b", "b"}, fault(api.ErrRefs, 1)},
		{[]string{"b", "a"}, fault(api.ErrRefs, 1)},
		{[]string{"a", "c", "b"}, fault(api.ErrRefs, 2)},
		{[]string{"b", "c", "a"}, fault(api.ErrRefs, 2)},
		{[]string{"a", "b", "b", "a"}, fault(api.ErrRefs, 2)},
		{[]string{"a", "b", "c d"}, fault(api.ErrRefs, 2)},
		{[]string{"a", "b c", "a"}, fault(api.ErrRefs, 1)},
		{[]string{"b", "a", ""}, fault(api.ErrRefs, 1)},
	}
	for _, row := range rows {
		holdCheck(t, recipe.Recipe{Name: "a", Deps: row.deps}, row.want)
		if row.want.Code != api.OK {
			holdCheck(t, recipe.Recipe{Name: "a", Deps: row.deps, Steps: []recipe.Step{step("x")}}, row.want)
		}
	}
}

func TestCheckSteps(t *testing.T) { // P21.1
	deps := []string{"b", "c.d", "e"}
	long := strings.Repeat("n", 255)
	right := []recipe.Step{
		step("file", "x", ""), step("file", "x/y", "any\x00\n\"text"), step("file", "file", "file"), step("file", names(31), "x"), step("file", long+"/"+long, ""), step("file", "...", ""), step("file", "\n ", ""),
		step("exec", "x", ""), step("exec", "x/y", "any\x00\n\"text"),
		step("link", "x", "y"), step("link", "x/y", "../../a//b/"), step("link", "x", "\n"),
		step("dir", "x"), step("dir", "x/y"), step("cut", "x"), step("cut", "x/y"),
		step("copy", "b", "", "y"), step("copy", "c.d", "x/y", "z"), step("copy", "e", names(31), names(31)),
		step("path", "b", "y"), step("path", "e", "x/y"),
		step("join", "a", "b", "c"), step("join", "a", "a", "a"), step("join", "x/y", "y/z", "z/x"),
	}
	for _, s := range right {
		holdCheck(t, recipe.Recipe{Name: "a", Deps: deps, Steps: []recipe.Step{s}}, api.Fault{})
	}
	holdCheck(t, recipe.Recipe{Name: "a", Deps: deps, Steps: right}, api.Fault{})
	var wrong []recipe.Step
	for _, s := range right { // one argument fewer, one more, none
		wrong = append(wrong, step(s.Op, s.Args[:len(s.Args)-1]...), step(s.Op, append(slices.Clone(s.Args), "x")...), step(s.Op))
	}
	for _, path := range []string{"", "/", "x/", "/x", "x//y", ".", "..", "x/../y", "x\x00", names(32), names(40), long + "n"} {
		wrong = append(wrong, step("file", path, "x"), step("exec", path, "x"), step("link", path, "x"), step("dir", path), step("cut", path))
		wrong = append(wrong, step("copy", "b", "x", path), step("path", "b", path), step("join", path, "x", "y"), step("join", "x", path, "y"), step("join", "x", "y", path))
		if path != "" {
			wrong = append(wrong, step("copy", "b", path, "x"))
		}
	}
	for _, dep := range []string{"", "a", "c", "d", "f", "B", "b ", "bb", "c.d.e"} {
		wrong = append(wrong, step("copy", dep, "x", "y"), step("path", dep, "y"))
	}
	for _, op := range []string{"", "x", "File", "file ", "files", "fil", "move", "DIR", "\x00", "copy\n", "Recipe"} {
		wrong = append(wrong, step(op), step(op, "x"), step(op, "x", "y"), step(op, "b", "x", "y"))
	}
	wrong = append(wrong, step("link", "x", ""), step("link", "x", "\x00"), step("link", "x", "y\x00z"))
	for _, s := range wrong {
		holdCheck(t, recipe.Recipe{Name: "a", Deps: deps, Steps: []recipe.Step{s}}, fault(api.ErrStep, 0))
		holdCheck(t, recipe.Recipe{Name: "a", Deps: deps, Steps: []recipe.Step{right[0], right[7], s, step("x"), right[1]}}, fault(api.ErrStep, 2))
	}
	holdCheck(t, recipe.Recipe{Name: "a", Steps: []recipe.Step{step("dir", "x"), step("copy", "b", "", "y")}}, fault(api.ErrStep, 1))
	holdCheck(t, recipe.Recipe{Name: "a", Steps: []recipe.Step{step("path", "a", "y")}}, fault(api.ErrStep, 0)) // no dependency of its own
}

func TestCheckOfRandom(t *testing.T) { // P21.1, P1
	r := rand.New(rand.NewSource(1))
	seen := map[api.Errno]int{}
	for range 30000 {
		one := randomRight(r)
		want := checked(one)
		holdCheck(t, one, want)
		seen[want.Code]++
	}
	for _, code := range []api.Errno{api.OK, api.ErrName, api.ErrRefs, api.ErrStep} {
		if seen[code] < 100 {
			t.Errorf("only %d times %d", seen[code], code)
		}
	}
	for range 3000 {
		one := randomRecipe(r)
		holdCheck(t, one, checked(one))
	}
}

func TestPrint(t *testing.T) { // P21.2
	rows := []struct {
		r    recipe.Recipe
		want string
	}{
		{recipe.Recipe{}, `Recipe("",[],[])`},
		{recipe.Recipe{Name: "a"}, `Recipe("a",[],[])`},
		{recipe.Recipe{Name: "a", Deps: []string{}, Steps: []recipe.Step{}}, `Recipe("a",[],[])`},
		{recipe.Recipe{Name: "a", Deps: []string{"b"}, Steps: []recipe.Step{step("dir", "x")}}, `Recipe("a",["b"],[("dir","x")])`},
		{recipe.Recipe{Name: "a", Deps: []string{"c", "b", ""}, Steps: []recipe.Step{{}, {Op: "x", Args: []string{}}, step("", ""), step("copy", "b", "", "y")}}, `Recipe("a",["c","b",""],[(""),("x"),("",""),("copy","b","","y")])`},
		{recipe.Recipe{Name: "a\"\\\n\t"}, `Recipe("a\"\\\n\t",[],[])`},
		{recipe.Recipe{Name: "\\n", Deps: []string{"\n\n", "\\"}, Steps: []recipe.Step{step("\t", "\"", "\\\"")}}, `Recipe("\\n",["\n\n","\\"],[("\t","\"","\\\"")])`},
		{recipe.Recipe{Name: "\r\x00\x7f\xff\v\f ä/'"}, "Recipe(\"\r\x00\x7f\xff\v\f ä/'\",[],[])"},
		{recipe.Recipe{Name: `","],[(`}, `Recipe("\",\"],[(",[],[])`},
	}
	for _, row := range rows {
		if got := recipe.Print(row.r); got != row.want {
			t.Errorf("Print = %s, not %s", got, row.want)
		}
	}
}

func TestPrintByteByByte(t *testing.T) { // P21.2, P21.4: each byte, in each place of a recipe
	for i := range 256 {
		c := string([]byte{byte(i)})
		for _, s := range []string{c, "a" + c, c + "a", c + c} {
			r := recipe.Recipe{Name: s, Deps: []string{s, "b", s}, Steps: []recipe.Step{step(s), step("x", s), step(s, "y", s)}}
			text := recipe.Print(r)
			if text != printed(r) {
				t.Fatalf("Print of %q = %s", s, text)
			}
			if got, err := recipe.Parse(text); err != nil || !same(got, r) {
				t.Fatalf("Parse(%q) = %v, %v", text, got, err)
			}
		}
	}
}

func TestDigest(t *testing.T) { // P21.3
	r := rand.New(rand.NewSource(2))
	low := recipe.Recipe{Name: "low", Steps: []recipe.Step{step("file", "x", "hello")}}
	if got := recipe.Digest(low); got != sha256.Sum256([]byte(`Recipe("low",[],[("file","x","hello")])`)) {
		t.Errorf("Digest = %x", got)
	}
	for range 500 {
		one := randomRecipe(r)
		if got := recipe.Digest(one); got != sha256.Sum256([]byte(printed(one))) {
			t.Fatalf("Digest(%v) = %x", one, got)
		}
	}
}

func TestSame(t *testing.T) { // P21.5
	whole := func() recipe.Recipe {
		return recipe.Recipe{Name: "a", Deps: []string{"b", "c"}, Steps: []recipe.Step{step("dir", "x"), step("path", "b", "y")}}
	}
	changes := []func(r *recipe.Recipe){
		func(r *recipe.Recipe) { r.Name = "A" },
		func(r *recipe.Recipe) { r.Name = "" },
		func(r *recipe.Recipe) { r.Deps = nil },
		func(r *recipe.Recipe) { r.Deps = r.Deps[:1] },
		func(r *recipe.Recipe) { r.Deps[1] = "d" },
		func(r *recipe.Recipe) { r.Deps[0], r.Deps[1] = r.Deps[1], r.Deps[0] },
		func(r *recipe.Recipe) { r.Deps = append(r.Deps, "") },
		func(r *recipe.Recipe) { r.Steps = nil },
		func(r *recipe.Recipe) { r.Steps = r.Steps[:1] },
		func(r *recipe.Recipe) { r.Steps = append(r.Steps, recipe.Step{}) },
		func(r *recipe.Recipe) { r.Steps[0], r.Steps[1] = r.Steps[1], r.Steps[0] },
		func(r *recipe.Recipe) { r.Steps[1].Op = "cut" },
		func(r *recipe.Recipe) { r.Steps[0].Args = nil },
		func(r *recipe.Recipe) { r.Steps[1].Args[1] = "z" },
		func(r *recipe.Recipe) { r.Steps[1].Args = append(r.Steps[1].Args, "") },
		func(r *recipe.Recipe) { r.Steps[1].Args = r.Steps[1].Args[:1] },
	}
	if !recipe.Same(whole(), whole()) || !recipe.Same(recipe.Recipe{}, recipe.Recipe{}) {
		t.Error("the same aren't the same")
	}
	for i, change := range changes {
		other := whole()
		change(&other)
		if recipe.Same(whole(), other) || recipe.Same(other, whole()) {
			t.Errorf("%d: %v is the same", i, other)
		}
	}
	empty := recipe.Recipe{Deps: []string{}, Steps: []recipe.Step{}}
	if !recipe.Same(empty, recipe.Recipe{}) || !recipe.Same(recipe.Recipe{}, empty) {
		t.Error("empty lists")
	}
	one, other := recipe.Recipe{Steps: []recipe.Step{{Op: "x"}}}, recipe.Recipe{Steps: []recipe.Step{{Op: "x", Args: []string{}}}}
	if !recipe.Same(one, other) || !recipe.Same(other, one) {
		t.Error("empty arguments")
	}
}

func TestSameOfRandom(t *testing.T) { // P21.5: wrong recipes too
	r := rand.New(rand.NewSource(3))
	for range 5000 {
		a, b := randomRecipe(r), randomRecipe(r)
		if r.Intn(2) == 0 {
			b = plain(a)
		}
		if got := recipe.Same(a, b); got != same(a, b) {
			t.Fatalf("Same(%v, %v) = %v", a, b, got)
		}
	}
}
