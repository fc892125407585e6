package env_test

import (
	"fmt"
	"math"
	"math/rand"
	"strings"
	"testing"

	"depot/api"
	"depot/env"
	"depot/tree"
)

// hold: Union answers that tree.
func hold(t *testing.T, want api.Node, parts ...env.Part) {
	t.Helper()
	n, path, code := env.Union(parts)
	if code != api.OK || path != "" || show(n) != show(want) {
		t.Errorf("Union of %s = %s, %q, %d, not %s", showParts(parts), show(n), path, code, show(want))
	}
}

// holdError: Union answers that error, that path, and no tree.
func holdError(t *testing.T, wantPath string, want api.Errno, parts ...env.Part) {
	t.Helper()
	n, path, code := env.Union(parts)
	if code != want || path != wantPath || !tree.Equal(n, api.Node{}) {
		t.Errorf("Union of %d parts = %s, %q, %d, not %q, %d", len(parts), show(n), path, code, wantPath, want)
	}
}

func TestUnionOfOne(t *testing.T) { // P23.1
	for _, n := range []api.Node{file(""), file("x"), exec("x"), link("x"), dir(), one(file("x")), one(dir()), nested(31, file("x")), nested(31, dir())} {
		for _, prio := range []float64{0, 1, -1, math.Inf(1), math.Inf(-1), math.MaxFloat64} {
			hold(t, n, part(n, prio))
		}
	}
}

func TestUnionOfFiles(t *testing.T) { // P23.1: of those with the least priority alone, which must be equal
	x, y := file("x"), file("y")
	for _, in := range []func(api.Node) api.Node{func(n api.Node) api.Node { return n }, one} {
		hold(t, in(y), part(in(x), 2), part(in(y), 1.5))
		hold(t, in(x), part(in(x), 1.5), part(in(y), 2))
		hold(t, in(x), part(in(x), 1), part(in(x), 1))
		hold(t, in(x), part(in(x), 1), part(in(x), 2))
		hold(t, in(exec("x")), part(in(exec("x")), -1), part(in(x), 0))
		hold(t, in(link("x")), part(in(x), 0), part(in(link("x")), -1))
		hold(t, in(link("x")), part(in(link("x")), 0), part(in(link("x")), 0))
		hold(t, in(exec("x")), part(in(exec("x")), 0), part(in(exec("x")), 0), part(in(exec("x")), 0))
		// What stands behind the least priority may be unlike it, and unlike among itself.
		hold(t, in(x), part(in(y), 2), part(in(x), 1), part(in(link("z")), 2), part(in(x), 1), part(in(exec("x")), 3))
		hold(t, in(x), part(in(y), 3), part(in(exec("z")), 2), part(in(x), 1))
		hold(t, in(x), part(in(x), 1), part(in(exec("z")), 2), part(in(y), 3))
	}
}

func TestUnionPriorities(t *testing.T) { // P23.1: by gauge.Less
	minus := math.Copysign(0, -1)
	rising := []float64{math.Inf(-1), -math.MaxFloat64, -1, -5e-324, 0, 5e-324, 1, math.Nextafter(1, 2), 2, math.MaxFloat64, math.Inf(1)}
	for i, a := range rising {
		for j, b := range rising {
			switch {
			case i < j:
				hold(t, one(file("x")), part(one(file("x")), a), part(one(file("y")), b))
			case i > j:
				hold(t, one(file("y")), part(one(file("x")), a), part(one(file("y")), b))
			default:
				hold(t, one(file("x")), part(one(file("x")), a), part(one(file("x")), b))
				holdError(t, "a", api.ErrConflict, part(one(file("x")), a), part(one(file("y")), b))
			}
		}
	}
	for _, pair := range [][2]float64{{0, minus}, {minus, 0}, {minus, minus}} {
		holdError(t, "a", api.ErrConflict, part(one(file("x")), pair[0]), part(one(file("y")), pair[1]))
		hold(t, one(file("x")), part(one(file("x")), pair[0]), part(one(file("x")), pair[1]), part(one(file("y")), 1))
	}
}

func TestUnionOfDirectories(t *testing.T) { // P23.1: where all are directories, whatever their priorities
	x, y, z := file("x"), file("y"), file("z")
	hold(t, dir(), part(dir(), 1), part(dir(), 2))
	hold(t, dir(in("a", y), in("b", z)), part(one(x), 2), part(one(y), 1.5), part(dir(in("b", z)), 9))
	hold(t, dir(in("a", x), in("b", y), in("c", z)), part(dir(in("b", y)), 1), part(dir(in("c", z)), 1), part(one(x), 1))
	// The names rise by their bytes.
	hold(t, dir(in("!", x), in("B", y), in("a", z), in("ab", x), in("b", y), in("\xff", z)),
		part(dir(in("B", y), in("ab", x), in("\xff", z)), 2), part(dir(in("!", x), in("a", z), in("b", y)), 1))
	// Names in several directories, each taken by its own priority.
	hold(t, dir(in("a", x), in("b", z), in("c", x), in("d", y)),
		part(dir(in("a", x), in("b", x), in("c", x)), 2), part(dir(in("b", y), in("d", y)), 3), part(dir(in("b", z)), 1))
	// Deeper, an entry has its part's priority.
	hold(t, one(one(dir(in("a", y), in("b", x)))), part(one(one(dir(in("a", x), in("b", x)))), 2), part(one(one(one(y))), 1))
	hold(t, one(dir(in("a", x), in("b", y))), part(one(one(x)), 1), part(one(dir(in("b", y))), 1))
	hold(t, one(one(x)), part(one(one(x)), 1), part(one(dir()), 0), part(dir(), -1))
}

func TestUnionOfMixedKinds(t *testing.T) { // P23.1
	x, y := file("x"), file("y")
	for _, in := range []func(api.Node) api.Node{func(n api.Node) api.Node { return n }, one} {
		hold(t, in(x), part(in(dir()), 2), part(in(x), 1))
		hold(t, in(x), part(in(x), 1), part(in(one(y)), 2))
		hold(t, in(dir()), part(in(dir()), 1), part(in(x), 2))
		hold(t, in(one(y)), part(in(x), 2), part(in(one(y)), 1))
		// A file, though it isn't of the least priority, shuts out the directories that aren't either.
		hold(t, in(one(x)), part(in(one(x)), 1), part(in(dir(api.Entry{Name: "b", Node: y})), 3), part(in(y), 2))
		hold(t, in(one(x)), part(in(one(x)), 1), part(in(dir(api.Entry{Name: "b", Node: y})), 2), part(in(y), 3))
		// The directories of the least priority are one.
		hold(t, in(dir(api.Entry{Name: "a", Node: x}, api.Entry{Name: "b", Node: y})),
			part(in(one(x)), 1), part(in(link("x")), 2), part(in(dir(api.Entry{Name: "b", Node: y})), 1))
	}
	holdError(t, "", api.ErrConflict, part(dir(), 1), part(x, 1))
	holdError(t, "a", api.ErrConflict, part(one(x), 1), part(one(dir()), 1))
	holdError(t, "a", api.ErrConflict, part(one(dir()), 1), part(one(dir()), 1), part(one(link("x")), 1), part(one(y), 2))
	// What conflicts within the directories that lead.
	holdError(t, "a/a", api.ErrConflict, part(one(one(x)), 1), part(one(x), 2), part(one(one(y)), 1))
	// What would conflict is shut out.
	hold(t, one(x), part(one(one(x)), 2), part(one(one(y)), 2), part(one(x), 1))
}

func TestUnionConflicts(t *testing.T) { // P23.1: the path of the first in the order of the walk
	x, y := file("x"), file("y")
	holdError(t, "", api.ErrConflict, part(x, 1), part(y, 1))
	holdError(t, "", api.ErrConflict, part(x, 1), part(exec("x"), 1))
	holdError(t, "", api.ErrConflict, part(x, 1), part(link("x"), 1))
	holdError(t, "", api.ErrConflict, part(link("y"), 1), part(link("x"), 1))
	holdError(t, "", api.ErrConflict, part(x, 1), part(x, 1), part(y, 1))
	holdError(t, "", api.ErrConflict, part(y, 1), part(x, 1), part(x, 1))
	holdError(t, "", api.ErrConflict, part(x, 1), part(y, 1), part(x, 1))
	holdError(t, "", api.ErrConflict, part(x, 2), part(y, 1), part(exec("y"), 1))
	holdError(t, "a", api.ErrConflict, part(one(x), 1), part(one(y), 1))
	two := func(n api.Node) api.Node {
		return dir(in("a", dir(in("y", n), in("z", n))), in("a!", n), in("b", n))
	}
	// a! stands behind a as a name, so all of a comes first, though a! stands ahead of a/y as a text.
	holdError(t, "a/y", api.ErrConflict, part(two(x), 1), part(two(y), 1))
	holdError(t, "a!", api.ErrConflict, part(two(x), 1), part(two(y), 1), part(one(dir(in("y", x), in("z", y))), 0))
	holdError(t, "a/z", api.ErrConflict, part(two(x), 1), part(two(y), 1), part(one(dir(in("y", x))), 0))
	holdError(t, "b", api.ErrConflict, part(two(x), 1), part(two(y), 1), part(dir(in("a", x), in("a!", dir())), 0))
	holdError(t, strings.Repeat("d/", 30)+"d", api.ErrConflict, part(nested(31, x), 1), part(nested(31, y), 1))
	holdError(t, strings.Repeat("d/", 30)+"d", api.ErrConflict, part(nested(31, x), 1), part(nested(31, dir()), 1))
	// Which of the parts has it doesn't matter.
	holdError(t, "b", api.ErrConflict, part(dir(in("b", x)), 1), part(dir(in("c", x)), 1), part(dir(in("c", y)), 1), part(dir(in("b", y)), 1))
}

func TestUnionOfWrongParts(t *testing.T) { // P23.1: part by part, the priority ahead of the tree; the path is empty
	nan := math.NaN()
	holdError(t, "", api.ErrNone)
	if n, path, code := env.Union([]env.Part{}); code != api.ErrNone || path != "" || !tree.Equal(n, api.Node{}) {
		t.Errorf("%v, %q, %d", n, path, code)
	}
	wrong := one(link("")) // its offence is at a
	holdError(t, "", api.ErrPrio, part(dir(), nan))
	holdError(t, "", api.ErrPrio, part(dir(), -nan))
	holdError(t, "", api.ErrPrio, part(wrong, nan))
	holdError(t, "", api.ErrPrio, part(dir(), 1), part(dir(), 1), part(dir(), nan))
	holdError(t, "", api.ErrTarget, part(wrong, 1))
	holdError(t, "", api.ErrTarget, part(dir(), 1), part(wrong, 1))
	holdError(t, "", api.ErrTarget, part(wrong, 1), part(dir(), nan))
	holdError(t, "", api.ErrPrio, part(dir(), nan), part(wrong, 1))
	holdError(t, "", api.ErrTarget, part(dir(), 1), part(wrong, 1), part(api.Node{}, 1))
	holdError(t, "", api.ErrKind, part(dir(), 1), part(api.Node{}, 1), part(wrong, 1))
	holdError(t, "", api.ErrKind, part(api.Node{}, 0))
	// What is wrong goes ahead of a conflict.
	holdError(t, "", api.ErrPrio, part(file("x"), 1), part(file("y"), 1), part(dir(), nan))
	holdError(t, "", api.ErrOrder, part(file("x"), 1), part(file("y"), 1), part(dir(in("b", dir()), in("a", dir())), 1))
	// What is shut out must be right too.
	holdError(t, "", api.ErrDots, part(file("x"), 1), part(dir(in("..", dir())), 2))
	rows := []struct {
		n    api.Node
		code api.Errno
	}{
		{dir(in("", file(""))), api.ErrEmpty},
		{dir(in("a/b", file(""))), api.ErrByte},
		{dir(in(strings.Repeat("x", 256), file(""))), api.ErrLong},
		{dir(in("a", file("")), in("a", file(""))), api.ErrOrder},
		{nested(32, file("")), api.ErrDeep},
		{api.Node{Kind: api.File, Kids: []api.Entry{{}}}, api.ErrField},
		{one(api.Node{Kind: api.Dir, Text: "x"}), api.ErrField},
		{one(api.Node{Kind: 4}), api.ErrKind},
		{api.Node{Kind: -1}, api.ErrKind},
		{file(strings.Repeat("x", api.MaxArchive)), api.ErrBig},
		{one(file(strings.Repeat("x", api.MaxArchive))), api.ErrBig},
	}
	for _, r := range rows {
		holdError(t, "", r.code, part(r.n, 1))
		holdError(t, "", r.code, part(dir(), 1), part(r.n, 1), part(dir(), 1))
	}
}

func TestUnionTooLarge(t *testing.T) { // P23.1: MaxArchive bytes; one more is tree.Check's path and error
	empty := dir(in("a", dir(in("x", file("")))), in("b", file("")), in("c", dir()))
	size, _ := tree.Size(empty)
	room := api.MaxArchive - size
	first, second := strings.Repeat("x", 1<<19), strings.Repeat("y", room-1<<19)
	a, b, c := dir(in("a", dir(in("x", file(first))))), dir(in("b", file(second))), dir(in("c", dir()))
	hold(t, dir(in("a", dir(in("x", file(first)))), in("b", file(second)), in("c", dir())), part(c, 3), part(b, 2), part(a, 1))
	longer := dir(in("b", file(second+"y")))
	holdError(t, "c", api.ErrBig, part(a, 1), part(longer, 1), part(c, 1))
	holdError(t, "b", api.ErrBig, part(a, 1), part(dir(in("b", file(first+first[:1<<18]))), 1), part(c, 1))
	below := dir(in("a", dir(in("y", file(second+second[:1<<10])))))
	holdError(t, "a/y", api.ErrBig, part(a, 1), part(below, 1))
	// What is shut out counts for nothing.
	hold(t, dir(in("a", file("")), in("b", file(second+"y")), in("c", dir())), part(a, 1), part(longer, 1), part(c, 1), part(one(file("")), 0))
	// A conflict goes ahead, though it comes behind the bytes that are too many.
	holdError(t, "z", api.ErrConflict, part(a, 1), part(longer, 1), part(c, 1), part(dir(in("z", file("1"))), 1), part(dir(in("z", file("2"))), 1))
}

func TestUnionOfRandomTrees(t *testing.T) { // P23.1, P2, rule 4
	r := rand.New(rand.NewSource(231))
	seen := map[api.Errno]int{}
	for range 20000 {
		var parts []env.Part
		var kept []string
		for range 1 + r.Intn(6) {
			p := part(roomy(randomTree(r, 4)), randomPrio(r))
			parts, kept = append(parts, p), append(kept, frozen(p.Tree))
		}
		want, wantPath, wantCode := answerOf(parts)
		wantText := show(want)
		n, path, code := env.Union(parts)
		if code != wantCode || path != wantPath || show(n) != wantText {
			t.Fatalf("Union of %s = %s, %q, %d, not %s, %q, %d", showParts(parts), show(n), path, code, wantText, wantPath, wantCode)
		}
		again, _, _ := env.Union(parts)
		scribble(n)
		if show(again) != wantText {
			t.Fatal("answers share memory")
		}
		for i, p := range parts {
			if frozen(p.Tree) != kept[i] {
				t.Fatalf("an answer shares memory with part %d", i)
			}
		}
		seen[code]++
	}
	if seen[api.OK] < 2000 || seen[api.ErrConflict] < 2000 {
		t.Errorf("seen: %v", seen)
	}
}

func TestUnionSharesNothingWithItself(t *testing.T) { // rule 4
	kids := []api.Entry{in("x", file("1"))}
	twice := dir(in("a", api.Node{Kind: api.Dir, Kids: kids}), in("b", api.Node{Kind: api.Dir, Kids: kids}))
	n, _, _ := env.Union([]env.Part{part(twice, 1), part(twice, 1)})
	scribble(n.Kids[0].Node)
	if show(n.Kids[1].Node) != show(dir(in("x", file("1")))) || show(twice.Kids[0].Node) != show(dir(in("x", file("1")))) {
		t.Errorf("%s of %s", show(n), show(twice))
	}
}

func TestUnionOfManyParts(t *testing.T) { // P23.1: each with a name of its own, and one that all have
	var parts []env.Part
	want := dir(in("all", file("x")))
	for i := range 5000 {
		s := fmt.Sprintf("n%04d", i)
		parts = append(parts, part(dir(in("all", file("x")), in(s, dir())), float64(i%3)))
		want.Kids = append(want.Kids, in(s, dir()))
	}
	hold(t, want, parts...)
	parts[3].Tree = dir(in("all", file("y")))
	holdError(t, "all", api.ErrConflict, parts...)
}
