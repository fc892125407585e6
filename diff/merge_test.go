package diff_test

import (
	"math/rand"
	"slices"
	"strings"
	"testing"

	"depot/api"
	"depot/diff"
	"depot/tree"
)

func TestMerge(t *testing.T) { // P9.3
	x, y, z := file("x"), file("y"), file("z")
	one := func(n api.Node) api.Node { return dir(in("a", n)) }
	rows := []struct {
		old, a, b api.Node
		want      api.Node
		clashes   []string
	}{
		{x, x, x, x, nil},
		{x, y, y, y, nil},
		{x, y, x, y, nil},
		{x, x, y, y, nil},
		{x, y, z, y, []string{""}},
		{x, dir(), z, dir(), []string{""}},
		{x, z, dir(), z, []string{""}},
		{one(x), one(y), one(z), one(y), []string{"a"}},
		{one(x), one(y), one(y), one(y), nil},
		{one(x), dir(), dir(), dir(), nil},            // taken out by both
		{one(x), dir(), one(x), dir(), nil},           // by one
		{one(x), one(x), dir(), dir(), nil},           // by the other
		{one(x), dir(), one(y), dir(), []string{"a"}}, // out here, another there: nothing, and a clash
		{one(x), one(y), dir(), one(y), []string{"a"}},
		{dir(), one(x), one(x), one(x), nil}, // new in both
		{dir(), one(x), one(y), one(x), []string{"a"}},
		{dir(), one(x), dir(in("b", y)), dir(in("a", x), in("b", y)), nil},
		{dir(), dir(in("b", y)), one(x), dir(in("a", x), in("b", y)), nil},
		{one(x), one(exec("x")), one(link("x")), one(exec("x")), []string{"a"}},
		// Old is no directory, but both are.
		{x, one(x), one(y), one(x), []string{"a"}},
		{x, one(x), dir(in("b", y)), dir(in("a", x), in("b", y)), nil},
		{link("t"), one(x), dir(), one(x), nil},
		{one(x), one(one(x)), one(one(y)), one(one(x)), []string{"a/a"}},
		{dir(), one(one(x)), one(dir(in("b", y))), one(dir(in("a", x), in("b", y))), nil},
		// A directory here, a file there.
		{one(x), one(dir()), one(y), one(dir()), []string{"a"}},
		{one(one(x)), one(one(y)), one(z), one(one(y)), []string{"a"}},
		{one(one(x)), one(z), one(one(y)), one(z), []string{"a"}},
		{one(one(x)), one(z), one(one(x)), one(z), nil},
		// An entry that both leave nothing of leaves its directory.
		{one(one(x)), one(dir(in("b", y))), one(dir()), one(dir(in("b", y))), nil},
		{one(dir(in("a", x), in("b", x))), one(dir(in("a", x))), one(dir(in("b", x))), one(dir()), nil},
	}
	for _, r := range rows {
		got, clashes, code := diff.Merge(r.old, r.a, r.b)
		if code != api.OK || show(got) != show(r.want) || !slices.Equal(clashes, r.clashes) {
			t.Errorf("Merge(%s, %s, %s) = %s, %q, %d, not %s", show(r.old), show(r.a), show(r.b), show(got), clashes, code, show(r.want))
		}
	}
}

func TestMergeClashesInOrder(t *testing.T) { // P9.3
	made := func(s string) api.Node {
		return dir(in("a", dir(in("y", file(s)), in("z", file(s)))), in("a!", file(s)), in("b", file("same")), in("c", dir(in("c", dir(in("c", file(s)))))))
	}
	n, clashes, code := diff.Merge(made("0"), made("1"), made("2"))
	if code != api.OK || show(n) != show(made("1")) || !slices.Equal(clashes, []string{"a/y", "a/z", "a!", "c/c/c"}) {
		t.Errorf("%s, %q, %d", show(n), clashes, code)
	}
}

func TestMergeOfAllSmallTriples(t *testing.T) { // P9.3
	small := []*api.Node{nil}
	for _, n := range []api.Node{
		file("x"), file("y"), exec("x"), link("x"), dir(), dir(in("a", file("x"))), dir(in("a", file("y"))), dir(in("b", file("x"))),
		dir(in("a", file("x")), in("b", file("x"))), dir(in("a", dir())), dir(in("a", dir(in("b", file("x"))))), dir(in("a", dir(in("b", file("y"))))),
	} {
		small = append(small, &n)
	}
	holder := func(n *api.Node) api.Node {
		if n == nil {
			return dir()
		}
		return dir(in("n", *n))
	}
	for _, o := range small {
		for _, x := range small {
			for _, y := range small {
				old, a, b := holder(o), holder(x), holder(y)
				want, wantClashes := mergeOf(nil, &old, &a, &b)
				got, clashes, code := diff.Merge(old, a, b)
				if code != api.OK || show(got) != show(*want) || !slices.Equal(clashes, wantClashes) {
					t.Errorf("Merge(%s, %s, %s) = %s, %q, %d, not %s, %q", show(old), show(a), show(b), show(got), clashes, code, show(*want), wantClashes)
				}
			}
		}
	}
}

func TestMergeOfRandomTrees(t *testing.T) { // P9.3, rule 4
	r := rand.New(rand.NewSource(93))
	for range 5000 {
		old := randomTree(r, 3)
		a, b := changed(r, old, 3), changed(r, old, 3)
		kept := show(frozen(old)) + show(frozen(a)) + show(frozen(b))
		want, wantClashes := mergeOf(nil, &old, &a, &b)
		wantText := show(*want)
		got, clashes, code := diff.Merge(old, a, b)
		if code != api.OK || show(got) != wantText || !slices.Equal(clashes, wantClashes) {
			t.Fatalf("Merge(%s, %s, %s) = %s, %q, %d, not %s, %q", show(old), show(a), show(b), show(got), clashes, code, wantText, wantClashes)
		}
		again, clashesAgain, _ := diff.Merge(old, a, b)
		scribble(&got)
		for i := range clashes[:cap(clashes)] {
			clashes[:cap(clashes)][i] += "!"
		}
		if show(again) != wantText || !slices.Equal(clashesAgain, wantClashes) {
			t.Fatal("answers share memory")
		}
		if show(frozen(old))+show(frozen(a))+show(frozen(b)) != kept {
			t.Fatal("an answer shares memory with an argument")
		}
	}
}

func TestMergeSharesNothingWithItself(t *testing.T) { // rule 4
	kids := []api.Entry{in("x", file("1"))}
	twice := dir(in("a", api.Node{Kind: api.Dir, Kids: kids}), in("b", api.Node{Kind: api.Dir, Kids: kids}))
	n, _, _ := diff.Merge(dir(), twice, dir(in("c", file("")))) // merged, not taken whole
	scribble(&n.Kids[0].Node)
	if show(n.Kids[1].Node) != show(dir(in("x", file("1")))) {
		t.Errorf("%s", show(n))
	}
}

func TestMergeOfWrongTrees(t *testing.T) { // P9.3
	kind, target, order := api.Node{}, link(""), dir(in("b", file("")), in("a", file("")))
	rows := []struct {
		old, a, b api.Node
		want      api.Errno
	}{
		{kind, target, order, api.ErrKind},
		{target, order, kind, api.ErrTarget},
		{order, kind, target, api.ErrOrder},
		{dir(), target, order, api.ErrTarget},
		{dir(), order, target, api.ErrOrder},
		{dir(), dir(), target, api.ErrTarget},
		{dir(), file("x"), target, api.ErrTarget}, // though they clash
		{dir(), dir(), order, api.ErrOrder},
		{kind, kind, kind, api.ErrKind},
		{kind, dir(), dir(), api.ErrKind},
		{dir(), nested(32, file("")), dir(), api.ErrDeep},
	}
	for _, r := range rows {
		if n, clashes, code := diff.Merge(r.old, r.a, r.b); code != r.want || show(n) != show(api.Node{}) || len(clashes) != 0 {
			t.Errorf("Merge = %s, %q, %d, not %d", show(n), clashes, code, r.want)
		}
	}
}

func TestMergeTooLarge(t *testing.T) { // P9.3
	empty := dir(in("a", file("")), in("b", file("")), in("c", file("2")))
	size, _ := tree.Size(empty)
	room := api.MaxArchive - size
	first, second := strings.Repeat("x", 1<<19), strings.Repeat("y", room-1<<19)
	old := dir(in("c", file("1")))
	a, b := dir(in("a", file(first)), in("c", file("2"))), dir(in("b", file(second)), in("c", file("3")))
	n, clashes, code := diff.Merge(old, a, b)
	if code != api.OK || show(n) != show(dir(in("a", file(first)), in("b", file(second)), in("c", file("2")))) || !slices.Equal(clashes, []string{"c"}) {
		t.Errorf("the largest: %q, %d", clashes, code)
	}
	b.Kids[0].Node.Text += "y"
	n, clashes, code = diff.Merge(old, a, b)
	if code != api.ErrBig || show(n) != show(api.Node{}) || len(clashes) != 0 {
		t.Errorf("a byte more: %q, %d", clashes, code)
	}
}

func TestMergeAtTheDeepest(t *testing.T) { // P9.3
	path := strings.Repeat("d/", 30) + "d"
	n, clashes, code := diff.Merge(nested(31, file("x")), nested(31, file("y")), nested(31, file("z")))
	if code != api.OK || show(n) != show(nested(31, file("y"))) || !slices.Equal(clashes, []string{path}) {
		t.Errorf("%q, %d", clashes, code)
	}
}
