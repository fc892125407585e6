package tree_test

import (
	"math/rand"
	"slices"
	"strings"
	"testing"

	"depot/api"
	"depot/name"
	"depot/tree"
)

func row(path string, n api.Node) tree.Row {
	return tree.Row{Path: path, Kind: n.Kind, Exec: n.Exec, Text: n.Text}
}

func TestWalk(t *testing.T) { // P6.4
	n := dir(in("a", dir(in("b", link("t")), in("c", dir()))), in("a.b", exec("x")), in("d", file("")))
	want := []tree.Row{row("", dir()), row("a", dir()), row("a/b", link("t")), row("a/c", dir()), row("a.b", exec("x")), row("d", file(""))}
	if rows, code := tree.Walk(n); code != api.OK || !slices.Equal(rows, want) {
		t.Errorf("Walk: %v, %d", rows, code)
	}
	if rows, code := tree.Walk(file("x")); code != api.OK || !slices.Equal(rows, []tree.Row{{Kind: api.File, Text: "x"}}) {
		t.Errorf("Walk of a file: %v, %d", rows, code)
	}
	if rows, code := tree.Walk(dir(in("a", link("")))); code != api.ErrTarget || len(rows) != 0 {
		t.Errorf("Walk of no well-formed tree: %v, %d", rows, code)
	}
	if rows, code := tree.Walk(nested(31, file(""))); code != api.OK || len(rows) != 32 || rows[31].Path != strings.Repeat("d/", 30)+"d" {
		t.Errorf("Walk of the deepest: %v, %d", rows, code)
	}
}

func TestBuild(t *testing.T) { // P6.4
	d, f := dir(), file("")
	long := strings.Repeat("n", 256)
	rows := []struct {
		what string
		rows []tree.Row
		want api.Fault
	}{
		{"no rows", nil, api.Fault{Code: api.ErrEmpty}},
		{"a file", []tree.Row{row("", file("x"))}, api.Fault{}},
		{"a link", []tree.Row{row("", link("x"))}, api.Fault{}},
		{"no root", []tree.Row{row("a", d)}, api.Fault{Code: api.ErrOrder}},
		{"two roots", []tree.Row{row("", d), row("", d)}, api.Fault{Code: api.ErrOrder, At: 1}},
		{"two roots, later", []tree.Row{row("", d), row("a", d), row("", d)}, api.Fault{Code: api.ErrOrder, At: 2}},
		{"falling", []tree.Row{row("", d), row("b", f), row("a", f)}, api.Fault{Code: api.ErrOrder, At: 2}},
		{"twice", []tree.Row{row("", d), row("a", d), row("a", d)}, api.Fault{Code: api.ErrOrder, At: 2}},
		{"twice, behind what is in it", []tree.Row{row("", d), row("a", d), row("a/b", d), row("a", d)}, api.Fault{Code: api.ErrOrder, At: 3}},
		{"back to a closed directory", []tree.Row{row("", d), row("a", d), row("b", d), row("a/c", f)}, api.Fault{Code: api.ErrOrder, At: 3}},
		{"back to a closed directory below", []tree.Row{row("", d), row("a", d), row("a/a", d), row("a/b", d), row("a/a/c", f)}, api.Fault{Code: api.ErrOrder, At: 4}},
		{"in the order of the whole paths", []tree.Row{row("", d), row("a", d), row("a.b", f), row("a/b", f)}, api.Fault{Code: api.ErrOrder, At: 3}},
		{"in the order of the names", []tree.Row{row("", d), row("a", d), row("a/b", f), row("a.b", f)}, api.Fault{}},
		{"no directory on the way", []tree.Row{row("", d), row("a/b", f)}, api.Fault{Code: api.ErrOrder, At: 1}},
		{"another directory on the way", []tree.Row{row("", d), row("a", d), row("b/c", f)}, api.Fault{Code: api.ErrOrder, At: 2}},
		{"another name deeper on the way", []tree.Row{row("", d), row("a", d), row("a/b", d), row("a/c/d", f)}, api.Fault{Code: api.ErrOrder, At: 3}},
		{"below a file", []tree.Row{row("", f), row("a", f)}, api.Fault{Code: api.ErrOrder, At: 1}},
		{"below a link", []tree.Row{row("", d), row("a", link("x")), row("a/b", f)}, api.Fault{Code: api.ErrOrder, At: 2}},
		{"up by three", []tree.Row{row("", d), row("a", d), row("a/b", d), row("a/b/c", d), row("b", d), row("b/a", d)}, api.Fault{}},
		{"no path", []tree.Row{row("", d), row("a/", f)}, api.Fault{Code: api.ErrOrder, At: 1}},
		{"no path, for the root", []tree.Row{row("/", d)}, api.Fault{Code: api.ErrOrder}},
		{"dots", []tree.Row{row("", d), row("a", d), row("a/..", f)}, api.Fault{Code: api.ErrOrder, At: 2}},
		{"a nought", []tree.Row{row("", d), row("\x00", f)}, api.Fault{Code: api.ErrOrder, At: 1}},
		{"a long name", []tree.Row{row("", d), row(long, f)}, api.Fault{Code: api.ErrOrder, At: 1}},
		{"the longest name", []tree.Row{row("", d), row(long[1:], f)}, api.Fault{}},
		{"no kind", []tree.Row{{}}, api.Fault{Code: api.ErrOrder}},
		{"no kind, ahead of no path", []tree.Row{row("", d), {Path: "a"}, row("a//", d)}, api.Fault{Code: api.ErrOrder, At: 1}},
		{"kind 4", []tree.Row{row("", d), {Path: "a", Kind: 4}}, api.Fault{Code: api.ErrOrder, At: 1}},
		{"no target", []tree.Row{row("", link(""))}, api.Fault{Code: api.ErrOrder}},
		{"link with Exec", []tree.Row{{Kind: api.Link, Exec: true, Text: "x"}}, api.Fault{Code: api.ErrOrder}},
		{"directory with Exec", []tree.Row{row("", d), {Path: "a", Kind: api.Dir, Exec: true}}, api.Fault{Code: api.ErrOrder, At: 1}},
		{"directory with a text", []tree.Row{{Kind: api.Dir, Text: "x"}}, api.Fault{Code: api.ErrOrder}},
		{"deepest", rowsOf(nested(31, f), ""), api.Fault{}},
		{"too deep", rowsOf(nested(32, f), ""), api.Fault{Code: api.ErrOrder, At: 32}},
		{"largest", []tree.Row{row("", file(largest()))}, api.Fault{}},
		{"too large", []tree.Row{row("", file(largest()+"x"))}, api.Fault{Code: api.ErrOrder}},
		{"largest with entries", []tree.Row{row("", d), row("a", file(largest()[3*96+72:])), row("b", link("x"))}, api.Fault{}},
		{"too large with entries", []tree.Row{row("", d), row("a", file(largest()[3*96+71:])), row("b", link("x"))}, api.Fault{Code: api.ErrOrder, At: 2}},
	}
	for _, r := range rows {
		n, got := tree.Build(r.rows)
		if got != r.want {
			t.Errorf("%s: %v, not %v", r.what, got, r.want)
		}
		checkBuilt(t, r.rows, n, got)
	}
}

// isWalk: are there rows, and are they the Walk of a well-formed tree? The tree is put together without looking at their order.
func isWalk(rows []tree.Row) bool {
	var below func(i int) api.Node
	below = func(i int) api.Node {
		n := api.Node{Kind: rows[i].Kind, Exec: rows[i].Exec, Text: rows[i].Text}
		for j := i + 1; j < len(rows); j++ {
			at := strings.LastIndexByte(rows[j].Path, '/')
			if holder := rows[j].Path[:max(at, 0)]; holder == rows[i].Path {
				n.Kids = append(n.Kids, in(rows[j].Path[at+1:], below(j)))
			}
		}
		return n
	}
	if len(rows) == 0 || rows[0].Path != "" {
		return false
	}
	// A second root would be its own entry.
	if slices.ContainsFunc(rows[1:], func(r tree.Row) bool { return r.Path == "" }) {
		return false
	}
	walked, code := tree.Walk(below(0))
	return code == api.OK && slices.Equal(walked, rows)
}

// checkBuilt holds an answer of Build against the words of P6.4.
func checkBuilt(t *testing.T, rows []tree.Row, n api.Node, f api.Fault) {
	t.Helper()
	switch f.Code {
	case api.OK:
		if walked, code := tree.Walk(n); code != api.OK || !slices.Equal(walked, rows) || f.At != 0 {
			t.Errorf("built of %v: %v, %d", rows, walked, code)
		}
	case api.ErrOrder:
		if f.At > 0 && !isWalk(rows[:f.At]) || isWalk(rows[:f.At+1]) || !tree.Equal(n, api.Node{}) {
			t.Errorf("ErrOrder at %d of %v", f.At, rows)
		}
	default:
		if f != (api.Fault{Code: api.ErrEmpty}) || len(rows) != 0 || !tree.Equal(n, api.Node{}) {
			t.Errorf("fault %v", f)
		}
	}
}

// muddle changes the rows at random.
func muddle(r *rand.Rand, rows []tree.Row) []tree.Row {
	i, j := r.Intn(len(rows)), r.Intn(len(rows))
	switch r.Intn(7) {
	case 0:
		rows[i], rows[j] = rows[j], rows[i]
	case 1:
		rows = slices.Delete(rows, i, i+1)
	case 2:
		rows = slices.Insert(rows, i, rows[j])
	case 3:
		rows[i].Path = randomPath(r)
	case 4:
		rows[i].Kind = api.Kind(r.Intn(6) - 1)
	case 5:
		rows[i].Exec = !rows[i].Exec
	case 6:
		rows[i].Text = strings.Repeat("x", r.Intn(3))
	}
	return rows
}

func TestBuildOfRandomRows(t *testing.T) { // P6.4
	r := rand.New(rand.NewSource(64))
	for i := range 4000 {
		n := randomTree(r, 3)
		rows := rowsOf(n, "")
		for range i % 3 {
			if len(rows) > 0 {
				rows = muddle(r, rows)
			}
		}
		kept := slices.Clone(rows)
		got, f := tree.Build(rows)
		if !slices.Equal(kept, rows) {
			t.Fatal("Build changed its rows")
		}
		checkBuilt(t, rows, got, f)
		if i%3 == 0 && !tree.Equal(got, n) {
			t.Fatalf("built of %v", rows)
		}
	}
}

func TestBuildAnswersNewMemory(t *testing.T) { // rule 4
	r := rand.New(rand.NewSource(4))
	for range 200 {
		n := randomTree(r, 4)
		a, _ := tree.Build(rowsOf(n, ""))
		b, _ := tree.Build(rowsOf(n, ""))
		// Every directory's spare room is its own: filling one must not be seen in another.
		for _, at := range nodes(&a) {
			if at.Kind == api.Dir {
				_ = append(at.Kids, in("~", file("mine")))
			}
		}
		if !tree.Equal(a, n) {
			t.Fatal("two directories share memory")
		}
		scribble(&a)
		if !tree.Equal(b, n) {
			t.Fatal("two answers share memory")
		}
	}
}

func TestWalkAndBuildOfManyRows(t *testing.T) { // P6.4
	n := dir()
	for i := range 6000 {
		n.Kids = append(n.Kids, in(string([]byte{byte('a' + i/676), byte('a' + i/26%26), byte('a' + i%26)}), dir()))
	}
	rows, code := tree.Walk(n)
	if code != api.OK || len(rows) != 6001 {
		t.Fatalf("Walk: %d rows, %d", len(rows), code)
	}
	m, f := tree.Build(rows)
	if f != (api.Fault{}) || !tree.Equal(m, n) {
		t.Errorf("Build: %v", f)
	}
	if name.Sorted([]string{rows[1].Path, rows[6000].Path}) != -1 {
		t.Error("the rows' order")
	}
}
