package tree_test

import (
	"math/rand"
	"slices"
	"strings"
	"testing"

	"depot/api"
	"depot/name"
	"depot/tree"
)

func sample() api.Node {
	return dir(in("a", file("x")), in("d", dir(in("e", dir(in("f", exec("y")))), in("l", link("t")))))
}

func TestGet(t *testing.T) { // P6.5
	n := sample()
	long := strings.Repeat("n", 256)
	rows := []struct {
		n    api.Node
		path string
		want api.Node
		code api.Errno
	}{
		{n, "", n, api.OK},
		{file("z"), "", file("z"), api.OK},
		{n, "a", file("x"), api.OK},
		{n, "d", n.Kids[1].Node, api.OK},
		{n, "d/e", dir(in("f", exec("y"))), api.OK},
		{n, "d/e/f", exec("y"), api.OK},
		{n, "d/l", link("t"), api.OK},
		{n, "b", api.Node{}, api.ErrMissing},
		{n, "A", api.Node{}, api.ErrMissing},
		{n, "z", api.Node{}, api.ErrMissing},
		{n, "d/x", api.Node{}, api.ErrMissing},
		{n, "x/y/z", api.Node{}, api.ErrMissing},
		{n, "a/x", api.Node{}, api.ErrNotDir},
		{n, "a/x/y", api.Node{}, api.ErrNotDir},
		{n, "d/l/t", api.Node{}, api.ErrNotDir},
		{file("z"), "a", api.Node{}, api.ErrNotDir},
		{n, "a/", api.Node{}, api.ErrEmpty},
		{n, "/", api.Node{}, api.ErrEmpty},
		{n, "z/..", api.Node{}, api.ErrDots},
		{n, "a/\x00", api.Node{}, api.ErrByte},
		{n, long, api.Node{}, api.ErrLong},
		{n, strings.Repeat("z/", 31) + "z", api.Node{}, api.ErrDeep},
		{n, strings.Repeat("z/", 30) + "z", api.Node{}, api.ErrMissing},
		{link(""), "..", api.Node{}, api.ErrTarget},
		{dir(in("b", file("")), in("a", file(""))), "b", api.Node{}, api.ErrOrder},
		{api.Node{}, "", api.Node{}, api.ErrKind},
		{nested(31, file("q")), strings.Repeat("d/", 30) + "d", file("q"), api.OK},
	}
	for _, r := range rows {
		if got, code := tree.Get(r.n, r.path); code != r.code || !tree.Equal(got, r.want) {
			t.Errorf("Get(%q) = %v, %d, not %d", r.path, got, code, r.code)
		}
	}
}

func TestPut(t *testing.T) { // P6.6
	n := sample()
	rows := []struct {
		path string
		sub  api.Node
		want api.Node
		code api.Errno
	}{
		{"", file("s"), file("s"), api.OK},
		{"", n, n, api.OK},
		{"a", dir(), dir(in("a", dir()), n.Kids[1]), api.OK},
		{"A", dir(), dir(in("A", dir()), n.Kids[0], n.Kids[1]), api.OK},
		{"b", link("s"), dir(n.Kids[0], in("b", link("s")), n.Kids[1]), api.OK},
		{"e", link("s"), dir(n.Kids[0], n.Kids[1], in("e", link("s"))), api.OK},
		{"d", file("s"), dir(n.Kids[0], in("d", file("s"))), api.OK},
		{"d/e/f", file("s"), dir(n.Kids[0], in("d", dir(in("e", dir(in("f", file("s")))), in("l", link("t"))))), api.OK},
		{"d/e/a", file("s"), dir(n.Kids[0], in("d", dir(in("e", dir(in("a", file("s")), in("f", exec("y")))), in("l", link("t"))))), api.OK},
		{"x/y", file(""), api.Node{}, api.ErrMissing},
		{"d/x/y", file(""), api.Node{}, api.ErrMissing},
		{"a/y", file(""), api.Node{}, api.ErrNotDir},
		{"a/y/z", file(""), api.Node{}, api.ErrNotDir},
		{"d/l/z", file(""), api.Node{}, api.ErrNotDir},
		{"..", file(""), api.Node{}, api.ErrDots},
		{"a/", file(""), api.Node{}, api.ErrEmpty},
		{"x/y\x00", file(""), api.Node{}, api.ErrByte},
		{strings.Repeat("d/", 31) + "z", file(""), api.Node{}, api.ErrDeep},
		{"..", link(""), api.Node{}, api.ErrTarget},
		{"x/y", api.Node{}, api.Node{}, api.ErrKind},
		{"", dir(in("", file(""))), api.Node{}, api.ErrEmpty},
		{"b", nested(30, file("")), dir(n.Kids[0], in("b", nested(30, file(""))), n.Kids[1]), api.OK},
		{"b", nested(31, file("")), api.Node{}, api.ErrDeep},
		{"d/e/f", nested(29, file("")), api.Node{}, api.ErrDeep},
		{"", nested(31, file("")), nested(31, file("")), api.OK},
		{"", file(largest()), file(largest()), api.OK},
		{"b", file(largest()), api.Node{}, api.ErrBig},
		{"x/y", file(largest()), api.Node{}, api.ErrMissing},
	}
	for _, r := range rows {
		if got, code := tree.Put(n, r.path, r.sub); code != r.code || !tree.Equal(got, r.want) {
			t.Errorf("Put(%q) = %v, %d, not %d", r.path, got, code, r.code)
		}
	}
	if _, code := tree.Put(dir(in(".", file(""))), "..", link("")); code != api.ErrDots {
		t.Errorf("Put into no well-formed tree: %d", code)
	}
	if _, code := tree.Put(link(""), "", file("")); code != api.ErrTarget {
		t.Errorf("Put in the place of no well-formed tree: %d", code)
	}
	if _, code := tree.Put(file("x"), "a", file("")); code != api.ErrNotDir {
		t.Errorf("Put into a file: %d", code)
	}
	if got, code := tree.Put(dir(), "a", file("")); code != api.OK || !tree.Equal(got, dir(in("a", file("")))) {
		t.Errorf("Put into an empty directory: %v, %d", got, code)
	}
}

func TestPutToTheBrim(t *testing.T) { // P6.6
	brim := largest()[96+72:]
	if got, code := tree.Put(dir(), "a", file(brim)); code != api.OK || got.Kids[0].Node.Text != brim {
		t.Errorf("the largest: %d", code)
	}
	if got, code := tree.Put(dir(), "a", file(brim+"x")); code != api.ErrBig || !tree.Equal(got, api.Node{}) {
		t.Errorf("a byte more: %d", code)
	}
	full := dir(in("a", file(brim)))
	if got, code := tree.Put(full, "a", file("")); code != api.OK || !tree.Equal(got, dir(in("a", file("")))) {
		t.Errorf("in the place of the largest: %d", code)
	}
	if _, code := tree.Put(full, "b", file("")); code != api.ErrBig {
		t.Errorf("beside the largest: %d", code)
	}
	// Too deep and too large at once: the offence that comes first in the tree counts.
	deep := nested(31, file(""))
	if _, code := tree.Put(full, "b", deep); code != api.ErrBig {
		t.Errorf("too large ahead of too deep: %d", code)
	}
	if _, code := tree.Put(full, "A", deep); code != api.ErrDeep {
		t.Errorf("too deep ahead of too large: %d", code)
	}
	if got, code := tree.Put(nested(31, file("q")), strings.Repeat("d/", 30)+"d", dir()); code != api.OK || !tree.Equal(got, nested(31, dir())) {
		t.Errorf("at the deepest: %d", code)
	}
	if _, code := tree.Put(nested(31, dir()), strings.Repeat("d/", 30)+"e", file("")); code != api.OK {
		t.Errorf("beside the deepest: %d", code)
	}
}

func TestCut(t *testing.T) { // P6.6
	n := sample()
	rows := []struct {
		n    api.Node
		path string
		want api.Node
		code api.Errno
	}{
		{n, "a", dir(n.Kids[1]), api.OK},
		{n, "d", dir(n.Kids[0]), api.OK},
		{n, "d/e", dir(n.Kids[0], in("d", dir(in("l", link("t"))))), api.OK},
		{n, "d/l", dir(n.Kids[0], in("d", dir(in("e", dir(in("f", exec("y"))))))), api.OK},
		{n, "d/e/f", dir(n.Kids[0], in("d", dir(in("e", dir()), in("l", link("t"))))), api.OK},
		{dir(in("a", file(""))), "a", dir(), api.OK},
		{n, "", api.Node{}, api.ErrRoot},
		{file(""), "", api.Node{}, api.ErrRoot},
		{file(""), "a", api.Node{}, api.ErrNotDir},
		{n, "b", api.Node{}, api.ErrMissing},
		{n, "d/b", api.Node{}, api.ErrMissing},
		{n, "x/y", api.Node{}, api.ErrMissing},
		{n, "a/y", api.Node{}, api.ErrNotDir},
		{n, "a/y/z", api.Node{}, api.ErrNotDir},
		{n, "d/l/z", api.Node{}, api.ErrNotDir},
		{n, "/", api.Node{}, api.ErrEmpty},
		{n, "a/..", api.Node{}, api.ErrDots},
		{n, strings.Repeat("d/", 31) + "z", api.Node{}, api.ErrDeep},
		{link(""), "", api.Node{}, api.ErrTarget},
		{api.Node{}, "/", api.Node{}, api.ErrKind},
		{dir(in("a", file("")), in("b", link(""))), "b", api.Node{}, api.ErrTarget},
	}
	for _, r := range rows {
		if got, code := tree.Cut(r.n, r.path); code != r.code || !tree.Equal(got, r.want) {
			t.Errorf("Cut(%q) = %v, %d, not %d", r.path, got, code, r.code)
		}
	}
}

// kindAt: the kind of the row at that path; None, if there is none.
func kindAt(rows []tree.Row, path string) api.Kind {
	for _, r := range rows {
		if r.Path == path {
			return r.Kind
		}
	}
	return api.None
}

// reached: the error of going from the root by all the names, told by the rows alone.
func reached(rows []tree.Row, names []string) api.Errno {
	for i := range names {
		if kindAt(rows, strings.Join(names[:i], "/")) != api.Dir {
			return api.ErrNotDir
		}
		if kindAt(rows, strings.Join(names[:i+1], "/")) == api.None {
			return api.ErrMissing
		}
	}
	return api.OK
}

// inOrder: the rows in the order of Walk.
func inOrder(rows []tree.Row) []tree.Row {
	slices.SortFunc(rows, func(a, b tree.Row) int {
		x, _ := name.Split(a.Path)
		y, _ := name.Split(b.Path)
		return slices.Compare(x, y)
	})
	return rows
}

func TestChangesOfRandomTrees(t *testing.T) { // P6.5, P6.6
	r := rand.New(rand.NewSource(66))
	for range 5000 {
		n, sub, path := randomTree(r, 4), randomTree(r, 2), randomPath(r)
		keptTree, keptSub := frozen(n), frozen(sub)
		names, f := name.Split(path)
		rows := rowsOf(n, "")
		wantGet, wantPut, wantCut := f.Code, f.Code, f.Code
		if f.Code == api.OK {
			wantGet = reached(rows, names)
			wantPut, wantCut = wantGet, wantGet
			if path == "" {
				wantCut = api.ErrRoot
			} else if wantGet == api.ErrMissing && reached(rows, names[:len(names)-1]) == api.OK {
				wantPut = api.OK
			}
		}
		var there, others []tree.Row
		for _, row := range rows {
			if name.Under(row.Path, path) {
				row.Path = strings.TrimPrefix(row.Path[len(path):], "/")
				there = append(there, row)
			} else {
				others = append(others, row)
			}
		}
		got, code := tree.Get(n, path)
		if code != wantGet || code == api.OK && !slices.Equal(rowsOf(got, ""), there) {
			t.Fatalf("Get(%v, %q) = %v, %d", n, path, got, code)
		}
		cut, code := tree.Cut(n, path)
		if code != wantCut || code == api.OK && !slices.Equal(rowsOf(cut, ""), others) {
			t.Fatalf("Cut(%v, %q) = %v, %d", n, path, cut, code)
		}
		put, code := tree.Put(n, path, sub)
		if code != wantPut || code == api.OK && !slices.Equal(rowsOf(put, ""), inOrder(append(others, rowsOf(sub, path)...))) {
			t.Fatalf("Put(%v, %q, %v) = %v, %d", n, path, sub, put, code)
		}
		wantBack := rowsOf(put, "")
		scribble(&got)
		scribble(&cut)
		if !slices.Equal(rowsOf(put, ""), wantBack) {
			t.Fatal("answers share memory")
		}
		scribble(&put)
		if !tree.Equal(frozen(n), keptTree) || !tree.Equal(frozen(sub), keptSub) {
			t.Fatal("an answer shares memory with an argument")
		}
	}
}

func TestChangesLeaveSpareRoomAlone(t *testing.T) { // rule 4
	room := []api.Entry{in("a", file("x")), in("c", dir()), in("spare", file("kept"))}
	n := api.Node{Kind: api.Dir, Kids: room[:2]}
	sub := api.Node{Kind: api.Dir, Kids: room[:1]}
	whole := dir(room...)
	kept := frozen(whole)
	put, _ := tree.Put(n, "b", sub)
	cut, _ := tree.Cut(n, "a")
	got, _ := tree.Get(n, "c")
	again, _ := tree.Put(n, "", n)
	for _, answer := range []*api.Node{&put, &cut, &got, &again} {
		for _, at := range nodes(answer) {
			_ = append(at.Kids, in("mine", file("")))
		}
		scribble(answer)
	}
	if !tree.Equal(whole, kept) {
		t.Errorf("%v", whole)
	}
}
