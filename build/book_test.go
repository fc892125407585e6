package build_test

import (
	"errors"
	"fmt"
	"math"
	"math/rand"
	"slices"
	"strings"
	"testing"

	"depot/api"
	"depot/build"
	"depot/recipe"
)

func TestFailure(t *testing.T) {
	rows := []struct {
		f    build.Failure
		want string
	}{
		{build.Failure{Name: "high", Step: -1, Code: api.ErrMissing}, "high step -1: errno 3"},
		{build.Failure{Name: "a", Step: 0, Code: api.ErrNotFile}, "a step 0: errno 80"},
		{build.Failure{Name: "", Step: 12, Code: api.ErrCycle}, " step 12: errno 220"},
		{build.Failure{Name: "a b\n", Step: math.MinInt, Code: -7}, "a b\n step -9223372036854775808: errno -7"},
		{build.Failure{}, " step 0: errno 0"},
	}
	for _, row := range rows {
		if got := row.f.Error(); got != row.want {
			t.Errorf("Error() = %q, not %q", got, row.want)
		}
		if got := row.f.Unwrap(); got != error(row.f.Code) {
			t.Errorf("Unwrap() = %v", got)
		}
		holdFailure(t, &row.f, row.f)
	}
	var code api.Errno
	if err := error(&build.Failure{Code: api.ErrTwice}); !errors.As(err, &code) || code != api.ErrTwice {
		t.Error("a Failure doesn't give its code")
	}
}

func TestNewBook(t *testing.T) { // P22.1
	const (
		low  = `Recipe("low",[],[("file","x","hello")])`
		high = `Recipe("high",["low"],[("path","low","ref")])`
	)
	rows := []struct {
		texts []string
		want  api.Fault
	}{
		{nil, api.Fault{}},
		{[]string{}, api.Fault{}},
		{[]string{low}, api.Fault{}},
		{[]string{low, high}, api.Fault{}},
		{[]string{high, low}, api.Fault{}},
		{[]string{high}, api.Fault{}},                   // what it uses may be missing
		{[]string{`Recipe("a",["a"],[])`}, api.Fault{}}, // so may an order
		{[]string{low, `Recipe("Low",[],[])`}, api.Fault{}},

		{[]string{""}, fault(api.ErrSyntax, 0)},
		{[]string{low + " "}, fault(api.ErrSyntax, 0)},
		{[]string{low, high, low[1:]}, fault(api.ErrSyntax, 2)},
		{[]string{`Recipe("",[],[])`}, fault(api.ErrName, 0)},
		{[]string{low, `Recipe(".",[],[])`}, fault(api.ErrName, 1)},
		{[]string{low, `Recipe("a",["c","b"],[])`}, fault(api.ErrRefs, 1)},
		{[]string{low, `Recipe("a",["b",""],[("x")])`}, fault(api.ErrRefs, 1)},
		{[]string{high, low, `Recipe("a",[],[("dir","x"),("copy","low","x","y")])`}, fault(api.ErrStep, 2)},
		{[]string{low, low}, fault(api.ErrTwice, 1)},
		{[]string{low, high, `Recipe("low",["high"],[])`}, fault(api.ErrTwice, 2)},
		{[]string{low, `Recipe("low",["high"],[]`}, fault(api.ErrSyntax, 1)},
		{[]string{low, `Recipe("low",["high"],[("x")])`}, fault(api.ErrStep, 1)},
		{[]string{low, `Recipe("low",["",""],[])`}, fault(api.ErrRefs, 1)},
		{[]string{low, low, ""}, fault(api.ErrTwice, 1)},
		{[]string{low, "", low}, fault(api.ErrSyntax, 1)},
		{[]string{`Recipe("a",[],[("x")])`, ""}, fault(api.ErrStep, 0)},
		{[]string{low, `Recipe(".",[],[])`, low}, fault(api.ErrName, 1)},
	}
	for _, row := range rows {
		given := slices.Clone(row.texts)
		b, f := build.NewBook(row.texts)
		if f != row.want || (b == nil) != (f.Code != api.OK) {
			t.Errorf("NewBook(%q) = %v, %v, not %v", row.texts, b, f, row.want)
		}
		if !slices.Equal(given, row.texts) {
			t.Errorf("NewBook changed %q to %q", given, row.texts)
		}
	}
}

func TestNames(t *testing.T) { // P22.1
	for _, names := range [][]string{nil, {"a"}, {"c", "a", "b"}, {"9", "10", "B", "a", "b.", "b", "_"}} {
		var texts []string
		for _, name := range names {
			texts = append(texts, recipe.Print(of(name, "z")))
		}
		b, _ := build.NewBook(texts)
		want := slices.Sorted(slices.Values(names))
		for i := range texts { // the book keeps nothing of what it was given
			texts[i] = ""
		}
		for range 2 {
			got := b.Names()
			if !slices.Equal(got, want) {
				t.Errorf("Names() = %q, not %q", got, want)
			}
			scribble(got)
		}
	}
}

// holdPlan: Plan answers what the second reading does, twice, though the first answer is written over.
func holdPlan(t *testing.T, recipes []recipe.Recipe, want string) *build.Failure {
	t.Helper()
	b := bookOf(t, recipes...)
	order, failure := plan(recipes, want)
	for range 2 {
		got, err := b.Plan(want)
		if failure != nil {
			holdFailure(t, err, *failure)
			if len(got) != 0 {
				t.Fatalf("Plan(%q) = %q beside %v", want, got, err)
			}
			*err.(*build.Failure) = build.Failure{}
			continue
		}
		if err != nil || !slices.Equal(got, order) {
			t.Fatalf("Plan(%q) = %q, %v, not %q", want, got, err, order)
		}
		scribble(got)
	}
	if names := b.Names(); len(names) != len(recipes) {
		t.Fatalf("behind Plan the book has %q", names)
	}
	return failure
}

func TestPlan(t *testing.T) { // P22.2
	none := build.Failure{}
	failure := func(name string, code api.Errno) build.Failure {
		return build.Failure{Name: name, Step: -1, Code: code}
	}
	rows := []struct {
		uses    string // name:dependencies, parted by blanks
		want    string
		order   string
		failure build.Failure
	}{
		{"a:", "a", "a", none},
		{"a: b: c:", "b", "b", none},
		{"low: high:low", "high", "low high", none},
		{"a:b b:c c:", "a", "c b a", none},
		{"a:b b:c c:", "b", "c b", none},
		{"z:a,b,c a: b: c:", "z", "a b c z", none},
		{"a:b,c b: c:", "a", "b c a", none},
		{"top:l,r l:base r:base base:", "top", "base l r top", none},
		{"top:b,d b:c d:a a: c:", "top", "a c b d top", none}, // a frees d, but c and then b are less
		{"top:a,z a:y z: y:", "top", "y a z top", none},       // what has become free comes ahead of what was free longer
		{"t:a,b,c,d a:d b:d c: d:", "t", "c d a b t", none},   // the least that may come, each time
		{"B:a a: b:B", "b", "a B b", none},                    // by the bytes
		{"10:9 9:", "10", "9 10", none},
		{"a:b b: x:none y:y", "a", "b a", none}, // what isn't needed may be wrong

		{"", "a", "", failure("a", api.ErrMissing)},
		{"a:", "", "", failure("", api.ErrMissing)},
		{"a:", "A", "", failure("A", api.ErrMissing)},
		{"a:b", "a", "", failure("b", api.ErrMissing)},
		{"a:b,m b:c,z c:", "a", "", failure("m", api.ErrMissing)},
		{"a:x,y y:b,z", "a", "", failure("b", api.ErrMissing)},
		{"b:a,c c:b", "b", "", failure("a", api.ErrMissing)}, // a circle too
		{"b:b,z", "b", "", failure("z", api.ErrMissing)},
		{"a:a", "a", "", failure("a", api.ErrCycle)},
		{"a:b b:a", "b", "", failure("a", api.ErrCycle)},
		{"a:b b:a", "a", "", failure("a", api.ErrCycle)},
		{"z:y y:x x:y", "z", "", failure("x", api.ErrCycle)},
		{"a:z z:y y:z", "a", "", failure("a", api.ErrCycle)}, // in no circle, but it can't come
		{"m:a,c a: c:d d:c", "m", "", failure("c", api.ErrCycle)},
		{"m:b,c b: c:c", "m", "", failure("c", api.ErrCycle)},
	}
	for _, row := range rows {
		var recipes []recipe.Recipe
		for _, part := range strings.Fields(row.uses) {
			name, deps, _ := strings.Cut(part, ":")
			recipes = append(recipes, of(name, strings.ReplaceAll(deps, ",", " ")))
		}
		got, err := bookOf(t, recipes...).Plan(row.want)
		if row.failure != none {
			holdFailure(t, err, row.failure)
		} else if err != nil {
			t.Errorf("%s: Plan(%q): %v", row.uses, row.want, err)
		}
		if strings.Join(got, " ") != row.order {
			t.Errorf("%s: Plan(%q) = %q, not %q", row.uses, row.want, got, row.order)
		}
		holdPlan(t, recipes, row.want)
	}
}

func TestPlanOfRandom(t *testing.T) { // P22.2
	r := rand.New(rand.NewSource(1))
	seen := map[api.Errno]int{}
	for range 6000 {
		recipes := randomBook(r, 1+r.Intn(9), 1+r.Intn(3), r.Intn(3) > 0)
		if r.Intn(3) == 0 {
			recipes = recipes[1:]
		}
		failure := holdPlan(t, recipes, fmt.Sprintf("n%d", r.Intn(9)))
		if failure == nil {
			failure = &build.Failure{}
		}
		seen[failure.Code]++
	}
	for _, code := range []api.Errno{api.OK, api.ErrMissing, api.ErrCycle} {
		if seen[code] < 300 {
			t.Errorf("only %d times %d", seen[code], code)
		}
	}
}

func TestPlanOfMany(t *testing.T) { // P22.2: chains, rising and falling, and one that uses all others
	const n = 20000
	var up, down, all []recipe.Recipe
	var names []string
	for i := range n {
		names = append(names, fmt.Sprintf("n%05d", i))
	}
	for i, name := range names {
		u, d := recipe.Recipe{Name: name}, recipe.Recipe{Name: name}
		if i > 0 {
			u.Deps = names[i-1 : i]
		}
		if i < n-1 {
			d.Deps = names[i+1 : i+2]
		}
		up, down, all = append(up, u), append(down, d), append(all, recipe.Recipe{Name: name})
	}
	all = append(all, recipe.Recipe{Name: "all", Deps: names})
	if got, err := bookOf(t, up...).Plan(names[n-1]); err != nil || !slices.Equal(got, names) {
		t.Errorf("rising: %d names, %v", len(got), err)
	}
	if got, err := bookOf(t, all...).Plan("all"); err != nil || !slices.Equal(got, append(slices.Clone(names), "all")) {
		t.Errorf("all: %d names, %v", len(got), err)
	}
	back := slices.Clone(names)
	slices.Reverse(back)
	if got, err := bookOf(t, down...).Plan(names[0]); err != nil || !slices.Equal(got, back) {
		t.Errorf("falling: %d names, %v", len(got), err)
	}
	down[n-1].Deps = names[n/2 : n/2+1]
	_, err := bookOf(t, down...).Plan(names[n-1])
	holdFailure(t, err, build.Failure{Name: names[n/2], Step: -1, Code: api.ErrCycle})
}
