package diff_test

import (
	"math/rand"
	"slices"
	"strconv"
	"strings"
	"testing"

	"depot/api"
	"depot/diff"
	"depot/tree"
)

func TestDiff(t *testing.T) { // P9.1
	deep := nested(31, file("x"))
	rows := []struct {
		a, b api.Node
		want []diff.Edit
	}{
		{file("x"), file("x"), nil},
		{file("x"), file("y"), []diff.Edit{put("", file("y"))}},
		{file("x"), exec("x"), []diff.Edit{put("", exec("x"))}},
		{file("x"), link("x"), []diff.Edit{put("", link("x"))}},
		{link("x"), link("y"), []diff.Edit{put("", link("y"))}},
		{link("x"), link("x"), nil},
		{file("x"), dir(), []diff.Edit{put("", dir())}},
		{file(""), dir(in("a", file("x"))), []diff.Edit{put("", dir(in("a", file("x"))))}},
		{dir(in("a", file("x"))), file(""), []diff.Edit{put("", file(""))}},
		{dir(), dir(), nil},
		{dir(in("a", file("x"))), dir(in("a", file("x"))), nil},
		{dir(in("a", file("x"))), dir(in("a", file("y"))), []diff.Edit{put("a", file("y"))}},
		{dir(in("a", file("x"))), dir(), []diff.Edit{gone("a")}},
		{dir(), dir(in("a", file("x"))), []diff.Edit{put("a", file("x"))}},
		{dir(in("a", dir(in("b", file("x"))))), dir(), []diff.Edit{gone("a")}},
		{dir(), dir(in("a", dir(in("b", file("x"))))), []diff.Edit{put("a", dir(in("b", file("x"))))}},
		{dir(in("a", dir(in("b", file("x"))))), dir(in("a", dir())), []diff.Edit{gone("a/b")}},
		{dir(in("a", dir(in("b", file("x"))))), dir(in("a", file("x"))), []diff.Edit{put("a", file("x"))}},
		{dir(in("a", file("x"))), dir(in("b", file("x"))), []diff.Edit{gone("a"), put("b", file("x"))}},
		{dir(in("b", file("x"))), dir(in("a", file("x"))), []diff.Edit{put("a", file("x")), gone("b")}},
		// a! stands behind a as a name, so all of a comes first, though a! stands ahead of a/x as a text.
		{dir(in("a", dir(in("x", file("1")))), in("a!", file("1"))), dir(in("a", dir(in("x", file("2")))), in("a!", file("2"))),
			[]diff.Edit{put("a/x", file("2")), put("a!", file("2"))}},
		{dir(in("a", file("")), in("c", file("")), in("e", file("")), in("\xff", file(""))),
			dir(in("b", file("")), in("c", file("")), in("d", file("")), in("e", file("z"))),
			[]diff.Edit{gone("a"), put("b", file("")), put("d", file("")), put("e", file("z")), gone("\xff")}},
		{deep, deep, nil},
		{deep, nested(31, file("y")), []diff.Edit{put(strings.Repeat("d/", 30)+"d", file("y"))}},
		{deep, nested(31, dir()), []diff.Edit{put(strings.Repeat("d/", 30)+"d", dir())}},
		{deep, nested(30, dir()), []diff.Edit{gone(strings.Repeat("d/", 30) + "d")}},
	}
	for _, r := range rows {
		got, code := diff.Diff(r.a, r.b)
		if code != api.OK || showEdits(got) != showEdits(r.want) {
			t.Errorf("Diff(%s, %s) = %s, %d", show(r.a), show(r.b), showEdits(got), code)
		}
	}
}

func TestDiffOfWrongTrees(t *testing.T) { // P9.1
	large := file(strings.Repeat("x", api.MaxArchive))
	rows := []struct {
		a, b api.Node
		want api.Errno
	}{
		{link(""), file(""), api.ErrTarget},
		{file(""), link(""), api.ErrTarget},
		{link(""), api.Node{}, api.ErrTarget},
		{api.Node{}, link(""), api.ErrKind},
		{api.Node{}, api.Node{}, api.ErrKind},
		{link(""), link(""), api.ErrTarget},
		{dir(in("b", file("")), in("a", file(""))), dir(), api.ErrOrder},
		{dir(), dir(in("a", file("")), in("a", file(""))), api.ErrOrder},
		{dir(), dir(in("..", file(""))), api.ErrDots},
		{large, large, api.ErrBig},
		{file(""), large, api.ErrBig},
		{nested(32, file("")), file(""), api.ErrDeep},
		{file(""), api.Node{Kind: api.Dir, Exec: true}, api.ErrField},
	}
	for _, r := range rows {
		if got, code := diff.Diff(r.a, r.b); code != r.want || len(got) != 0 {
			t.Errorf("Diff = %s, %d, not %d", showEdits(got), code, r.want)
		}
	}
}

func TestDiffOfRandomTrees(t *testing.T) { // P9.1, P9.2, rule 4
	r := rand.New(rand.NewSource(91))
	for range 5000 {
		a := randomTree(r, 3)
		b := changed(r, a, 3)
		keptA, keptB := show(frozen(a)), show(frozen(b))
		got, code := diff.Diff(a, b)
		want := showEdits(editsOf(nil, a, b))
		if code != api.OK || showEdits(got) != want {
			t.Fatalf("Diff(%s, %s) = %s, %d, not %s", show(a), show(b), showEdits(got), code, want)
		}
		back, f := diff.Apply(a, got)
		if f != (api.Fault{}) || show(back) != show(b) {
			t.Fatalf("Apply of the edits from %s to %s = %s, %v", show(a), show(b), show(back), f)
		}
		again, _ := diff.Diff(a, b)
		for i := range got {
			scribble(&got[i].Node)
		}
		if show(back) != show(b) || showEdits(again) != want {
			t.Fatal("answers share memory")
		}
		scribble(&back)
		if show(frozen(a)) != keptA || show(frozen(b)) != keptB {
			t.Fatal("an answer shares memory with an argument")
		}
	}
}

func TestEditsShareNothingWithEachOther(t *testing.T) { // rule 4
	b := dir(in("a", dir(in("x", file("1")))), in("b", dir(in("x", file("1")))))
	b.Kids[1].Node.Kids = b.Kids[0].Node.Kids // handed in with shared memory
	list, _ := diff.Diff(dir(), b)
	scribble(&list[0].Node)
	if show(list[1].Node) != show(dir(in("x", file("1")))) {
		t.Errorf("%s", showEdits(list))
	}
}

func TestApply(t *testing.T) { // P9.2
	n := dir(in("a", file("x")), in("d", dir(in("e", file("y")))))
	rows := []struct {
		n    api.Node
		list []diff.Edit
		want api.Node
	}{
		{n, nil, n},
		{file("x"), []diff.Edit{}, file("x")},
		{n, []diff.Edit{gone("a")}, dir(n.Kids[1])},
		{n, []diff.Edit{gone("d/e")}, dir(n.Kids[0], in("d", dir()))},
		{n, []diff.Edit{gone("d/e"), gone("d"), gone("a")}, dir()},
		{n, []diff.Edit{put("", file("z"))}, file("z")},
		{n, []diff.Edit{put("", dir()), put("q", link("t"))}, dir(in("q", link("t")))},
		{n, []diff.Edit{put("a", dir()), put("a/b", dir()), put("a/b/c", exec("1"))}, dir(in("a", dir(in("b", dir(in("c", exec("1")))))), n.Kids[1])},
		{n, []diff.Edit{put("a", file("1")), put("a", file("2"))}, dir(in("a", file("2")), n.Kids[1])},
		{n, []diff.Edit{put("b", file("1")), gone("b")}, n},
		{n, []diff.Edit{{Path: "a", Gone: true, Node: api.Node{Kids: []api.Entry{}}}}, dir(n.Kids[1])},
	}
	for _, r := range rows {
		if got, f := diff.Apply(r.n, r.list); f != (api.Fault{}) || show(got) != show(r.want) {
			t.Errorf("Apply(%s, %s) = %s, %v", show(r.n), showEdits(r.list), show(got), f)
		}
	}
}

func TestApplyOfWrongEdits(t *testing.T) { // P9.2
	n := dir(in("a", file("x")), in("d", dir(in("e", file("y")))))
	spoilt := func(path string, node api.Node) diff.Edit { return diff.Edit{Path: path, Gone: true, Node: node} }
	rows := []struct {
		n    api.Node
		list []diff.Edit
		want api.Fault
	}{
		{api.Node{}, nil, fault(api.ErrKind, 0)},
		{link(""), []diff.Edit{put("", file(""))}, fault(api.ErrTarget, 0)},
		{link(""), []diff.Edit{put("", file("")), spoilt("", file(""))}, fault(api.ErrTarget, 0)},
		{dir(in("b", file("")), in("a", file(""))), []diff.Edit{gone("b")}, fault(api.ErrOrder, 0)},
		{n, []diff.Edit{spoilt("a", file(""))}, fault(api.ErrEdit, 0)},
		{n, []diff.Edit{spoilt("a", api.Node{Kind: -1})}, fault(api.ErrEdit, 0)},
		{n, []diff.Edit{spoilt("a", api.Node{Exec: true})}, fault(api.ErrEdit, 0)},
		{n, []diff.Edit{spoilt("a", api.Node{Text: "x"})}, fault(api.ErrEdit, 0)},
		{n, []diff.Edit{spoilt("a", api.Node{Text: "\x00"})}, fault(api.ErrEdit, 0)},
		{n, []diff.Edit{spoilt("a", api.Node{Kids: []api.Entry{{}}})}, fault(api.ErrEdit, 0)},
		{n, []diff.Edit{spoilt("", file(""))}, fault(api.ErrEdit, 0)},
		{n, []diff.Edit{spoilt("no/such", link(""))}, fault(api.ErrEdit, 0)},
		{n, []diff.Edit{gone("a"), spoilt("d", dir())}, fault(api.ErrEdit, 1)},
		{n, []diff.Edit{gone("")}, fault(api.ErrRoot, 0)},
		{n, []diff.Edit{gone("b")}, fault(api.ErrMissing, 0)},
		{n, []diff.Edit{gone("a"), gone("a")}, fault(api.ErrMissing, 1)},
		{n, []diff.Edit{gone("a/x")}, fault(api.ErrNotDir, 0)},
		{n, []diff.Edit{gone("a/..")}, fault(api.ErrDots, 0)},
		{n, []diff.Edit{gone("d//e")}, fault(api.ErrEmpty, 0)},
		{n, []diff.Edit{gone("d"), put("d/e", file(""))}, fault(api.ErrMissing, 1)},
		{n, []diff.Edit{put("a", file("1")), put("d", file("1")), put("d/e", file(""))}, fault(api.ErrNotDir, 2)},
		{n, []diff.Edit{put("a", api.Node{})}, fault(api.ErrKind, 0)},
		{n, []diff.Edit{put("a", file("")), put("..", link(""))}, fault(api.ErrTarget, 1)},
		{n, []diff.Edit{put("..", file(""))}, fault(api.ErrDots, 0)},
		{n, []diff.Edit{put("b", nested(31, file("")))}, fault(api.ErrDeep, 0)},
		{n, []diff.Edit{gone("b"), spoilt("a", file(""))}, fault(api.ErrMissing, 0)},
	}
	for _, r := range rows {
		if got, f := diff.Apply(r.n, r.list); f != r.want || show(got) != show(api.Node{}) {
			t.Errorf("Apply(%s, %s) = %s, %v, not %v", show(r.n), showEdits(r.list), show(got), f, r.want)
		}
	}
}

func TestApplyTooLargeOnTheWay(t *testing.T) { // P9.2
	half := strings.Repeat("x", api.MaxArchive*2/3)
	a, b := dir(in("z", file(half))), dir(in("a", file(half)))
	list, code := diff.Diff(a, b)
	if code != api.OK || showEdits(list) != showEdits([]diff.Edit{put("a", file(half)), gone("z")}) {
		t.Fatalf("Diff: %d edits, %d", len(list), code)
	}
	if n, f := diff.Apply(a, list); f != fault(api.ErrBig, 0) || show(n) != show(api.Node{}) {
		t.Errorf("Apply: %v", f)
	}
	slices.Reverse(list)
	if n, f := diff.Apply(a, list); f != (api.Fault{}) || show(n) != show(b) {
		t.Errorf("Apply the other way round: %v", f)
	}
}

func TestApplyOfRandomEdits(t *testing.T) { // P9.2, rule 4
	r := rand.New(rand.NewSource(92))
	paths := []string{"", "a", "a!", "b", "m", "a/a", "a/b", "b/a", "a/a/a", "a.b", "\xff", "a/", "."}
	for range 5000 {
		n := randomTree(r, 3)
		var list []diff.Edit
		for range r.Intn(5) {
			e := diff.Edit{Path: paths[r.Intn(len(paths))]}
			if r.Intn(2) == 0 {
				e.Gone = true
			}
			if !e.Gone || r.Intn(8) == 0 {
				e.Node = randomTree(r, 1)
			}
			list = append(list, e)
		}
		want, wantFault := n, api.Fault{}
		for i, e := range list {
			var code api.Errno
			switch {
			case e.Gone && e.Node.Kind != api.None:
				code = api.ErrEdit
			case e.Gone:
				want, code = tree.Cut(want, e.Path)
			default:
				want, code = tree.Put(want, e.Path, e.Node)
			}
			if code != api.OK {
				want, wantFault = api.Node{}, fault(code, i)
				break
			}
		}
		wantText, keptTree, keptList := show(want), show(frozen(n)), showEdits(list)
		got, f := diff.Apply(n, list)
		if f != wantFault || show(got) != wantText {
			t.Fatalf("Apply(%s, %s) = %s, %v, not %s, %v", show(n), showEdits(list), show(got), f, wantText, wantFault)
		}
		scribble(&got)
		if show(frozen(n)) != keptTree || showEdits(list) != keptList {
			t.Fatal("the answer shares memory with an argument")
		}
	}
}

func TestDiffOfLargeDirectories(t *testing.T) { // P9.1, P9.3
	a, b := dir(), dir()
	for i := range 4000 {
		e := in(strconv.Itoa(10000+i), file(""))
		if i%3 > 0 {
			a.Kids = append(a.Kids, e)
		}
		if i%3 < 2 {
			b.Kids = append(b.Kids, e)
		}
	}
	list, code := diff.Diff(a, b)
	if code != api.OK || len(list) != 2667 || show(list[0].Node) != show(file("")) || list[0].Path != "10000" || list[1].Path != "10002" || !list[1].Gone {
		t.Errorf("Diff: %d edits, %d", len(list), code)
	}
	n, clashes, code := diff.Merge(dir(), a, b)
	if code != api.OK || len(clashes) != 0 || len(n.Kids) != 4000 {
		t.Errorf("Merge: %d entries, %v, %d", len(n.Kids), clashes, code)
	}
}
