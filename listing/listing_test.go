package listing_test

import (
	"crypto/sha256"
	"encoding/binary"
	"math/rand"
	"slices"
	"strings"
	"testing"

	"depot/api"
	"depot/listing"
	"depot/nar"
	"depot/tree"
)

func file(text string) api.Node { return api.Node{Kind: api.File, Text: text} }

func exec(text string) api.Node { return api.Node{Kind: api.File, Exec: true, Text: text} }

func link(target string) api.Node { return api.Node{Kind: api.Link, Text: target} }

func dir(kids ...api.Entry) api.Node { return api.Node{Kind: api.Dir, Kids: kids} }

func in(name string, n api.Node) api.Entry { return api.Entry{Name: name, Node: n} }

func fault(code api.Errno, at int) api.Fault { return api.Fault{Code: code, At: at} }

func row(path string, n api.Node, at, size int) listing.Row {
	return listing.Row{Row: tree.Row{Path: path, Kind: n.Kind, Exec: n.Exec, Text: n.Text}, At: at, Size: size}
}

// scribe writes an archive by the document's words and notes where it is as the contents come.
type scribe struct {
	text []byte
	rows []listing.Row
}

func (s *scribe) words(list ...string) {
	for _, w := range list {
		s.text = binary.LittleEndian.AppendUint64(s.text, uint64(len(w)))
		s.text = append(s.text, w...)
		for len(s.text)%8 != 0 {
			s.text = append(s.text, 0)
		}
	}
}

func (s *scribe) node(path string, n api.Node) {
	s.rows = append(s.rows, row(path, n, 0, 0))
	last := &s.rows[len(s.rows)-1]
	switch {
	case n.Kind == api.Link:
		s.words("(", "type", "symlink", "target", n.Text, ")")
	case n.Kind == api.File:
		s.words("(", "type", "regular")
		if n.Exec {
			s.words("executable", "")
		}
		s.words("contents")
		last.At, last.Size = len(s.text)+8, len(n.Text)
		s.words(n.Text, ")")
	default:
		s.words("(", "type", "directory")
		for _, kid := range n.Kids {
			s.words("entry", "(", "name", kid.Name, "node")
			s.node(strings.TrimPrefix(path+"/"+kid.Name, "/"), kid.Node)
			s.words(")")
		}
		s.words(")")
	}
}

// archive: a well-formed tree's archive, and its rows.
func archive(n api.Node) (string, []listing.Row) {
	s := &scribe{}
	s.words("depot-archive-1")
	s.node("", n)
	return string(s.text), s.rows
}

func textOf(n api.Node) string {
	text, _ := archive(n)
	return text
}

// randomTree: a well-formed tree.
func randomTree(r *rand.Rand, levels int) api.Node {
	switch k := r.Intn(8); {
	case levels > 0 && k > 2:
		n := dir()
		for _, s := range []string{"*", "a", "a.b", "ab", "contents", "name-of-more-than-16", "\xff"} {
			if r.Intn(2) == 0 {
				n.Kids = append(n.Kids, in(s, randomTree(r, levels-1)))
			}
		}
		return n
	case k == 0:
		return link(strings.Repeat("t", 1+r.Intn(9)))
	case k == 1:
		return exec(strings.Repeat("e", r.Intn(20)))
	}
	return file(strings.Repeat("c", r.Intn(20)))
}

func TestListExamples(t *testing.T) { // P8.1
	n := dir(in("a", file("x")), in("d", dir(in("e", exec("12345678")), in("f", file("")))), in("l", link("a")))
	rows := []struct {
		n    api.Node
		want []listing.Row
	}{
		{file("hello"), []listing.Row{row("", file("hello"), 96, 5)}},
		{file(""), []listing.Row{row("", file(""), 96, 0)}},
		{exec("hello"), []listing.Row{row("", exec("hello"), 128, 5)}},
		{link("hello"), []listing.Row{row("", link("hello"), 0, 0)}},
		{dir(), []listing.Row{row("", dir(), 0, 0)}},
		// Up to its node an entry has 80 bytes (its name at most 8), a file 72 up to its contents, an executable one 104; a directory has 56 ahead of its entries.
		{n, []listing.Row{row("", dir(), 0, 0), row("a", file("x"), 24+56+80+72, 1), row("d", dir(), 0, 0),
			row("d/e", exec("12345678"), 232+8+32+80+56+80+104, 8), row("d/f", file(""), 592+8+32+80+72, 0), row("l", link("a"), 0, 0)}},
	}
	for _, r := range rows {
		if got, f := listing.List(textOf(r.n)); f != (api.Fault{}) || !slices.Equal(got, r.want) {
			t.Errorf("List = %v, %v, not %v", got, f, r.want)
		}
	}
}

func TestListOfRandomTrees(t *testing.T) { // P8.1
	r := rand.New(rand.NewSource(81))
	for range 1000 {
		n := randomTree(r, 4)
		text, want := archive(n)
		got, f := listing.List(text)
		if f != (api.Fault{}) || !slices.Equal(got, want) {
			t.Fatalf("List of %v = %v, %v, not %v", n, got, f, want)
		}
		walked, _ := tree.Walk(n)
		for i, row := range got {
			if row.Row != walked[i] {
				t.Fatalf("row %d: %v, not %v", i, row.Row, walked[i])
			}
			if row.Kind == api.File && (text[row.At:row.At+row.Size] != row.Text || row.Size != len(row.Text)) {
				t.Fatalf("row %d: %q isn't there", i, row.Text)
			}
		}
	}
}

func TestLargestAndDeepest(t *testing.T) { // P8.1
	deep := file("x")
	for range 31 {
		deep = dir(in("d", deep))
	}
	for _, n := range []api.Node{deep, file(strings.Repeat("x", api.MaxArchive-112))} {
		text, want := archive(n)
		if got, f := listing.List(text); f != (api.Fault{}) || !slices.Equal(got, want) {
			t.Errorf("%d rows, %v", len(got), f)
		}
	}
}

// bad: texts that are no archives.
func bad() []string {
	empty := textOf(dir())
	return []string{"", "x", empty[:95], empty + "x", empty[8:], textOf(link("")), textOf(dir(in(".", file("")))),
		textOf(dir(in("b", file("")), in("a", file("")))), strings.Replace(empty, "type", "tYpe", 1), empty[:95] + "x", empty[:15] + "\xff" + empty[16:]}
}

func TestNoArchives(t *testing.T) { // P8.1, P8.2, P8.3
	for _, text := range bad() {
		_, want := nar.Parse(text)
		if want.Code == api.OK {
			t.Fatalf("%q is an archive", text)
		}
		if rows, f := listing.List(text); f != want || len(rows) != 0 {
			t.Errorf("List(%q) = %v, %v, not %v", text, rows, f, want)
		}
		if rows, f := listing.Find(text, "*"); f != want || len(rows) != 0 {
			t.Errorf("Find(%q) = %v, %v, not %v", text, rows, f, want)
		}
		for _, path := range []string{"", "..", "a"} { // the archive is looked at ahead of the path
			if got, code := listing.Contents(text, path); code != want.Code || got != "" {
				t.Errorf("Contents(%q, %q) = %q, %d, not %d", text, path, got, code, want.Code)
			}
		}
	}
	if _, f := listing.List(textOf(dir()) + "x"); f != fault(api.ErrTrail, 96) {
		t.Errorf("a byte behind the archive: %v", f)
	}
}

func TestFind(t *testing.T) { // P8.2
	n := dir(in("a", dir(in("a", file("1")), in("b", file("2")))), in("ab", link("a")), in("b", dir(in("*", exec("3")))))
	text, all := archive(n)
	rows := []struct {
		pattern string
		paths   []string
	}{
		{"", []string{""}},
		{"*", []string{"", "a", "a/a", "a/b", "ab", "b", "b/*"}},
		{"?*", []string{"a", "a/a", "a/b", "ab", "b", "b/*"}},
		{"a", []string{"a", "a/a"}},
		{"a*", []string{"a", "a/a", "ab"}},
		{"*b", []string{"a/b", "ab", "b"}},
		{"?", []string{"a", "a/a", "a/b", "b", "b/*"}},
		{"??", []string{"ab"}},
		{"a/b", nil},
		{"a/*", nil},
		{"*/*", nil},
		{"c", nil},
		{"/", nil},
		{"\xff", nil},
	}
	for _, r := range rows {
		var want []listing.Row
		for _, row := range all {
			if slices.Contains(r.paths, row.Path) {
				want = append(want, row)
			}
		}
		if got, f := listing.Find(text, r.pattern); f != (api.Fault{}) || !slices.Equal(got, want) || len(got) != len(r.paths) {
			t.Errorf("Find(%q) = %v, %v", r.pattern, got, f)
		}
	}
	if got, f := listing.Find(textOf(file("hello")), "*"); f != (api.Fault{}) || !slices.Equal(got, []listing.Row{row("", file("hello"), 96, 5)}) {
		t.Errorf("of a file: %v, %v", got, f)
	}
}

func TestContents(t *testing.T) { // P8.3
	text := textOf(dir(in("a", file("hello")), in("d", dir(in("e", exec("run\x00")), in("f", file("")))), in("l", link("a"))))
	single := textOf(file("hello"))
	rows := []struct {
		text, path, want string
		code             api.Errno
	}{
		{single, "", "hello", api.OK},
		{single, "a", "", api.ErrNotDir},
		{text, "a", "hello", api.OK},
		{text, "d/e", "run\x00", api.OK},
		{text, "d/f", "", api.OK},
		{text, "", "", api.ErrNotFile},
		{text, "d", "", api.ErrNotFile},
		{text, "l", "", api.ErrNotFile},
		{textOf(link("a")), "", "", api.ErrNotFile},
		{text, "l/a", "", api.ErrNotDir},
		{text, "a/b", "", api.ErrNotDir},
		{text, "b", "", api.ErrMissing},
		{text, "d/g", "", api.ErrMissing},
		{text, "a/", "", api.ErrEmpty},
		{text, "/", "", api.ErrEmpty},
		{text, "..", "", api.ErrDots},
		{text, "d/\x00", "", api.ErrByte},
		{text, strings.Repeat("n", 256), "", api.ErrLong},
		{text, strings.Repeat("d/", 31) + "d", "", api.ErrDeep},
	}
	for _, r := range rows {
		if got, code := listing.Contents(r.text, r.path); got != r.want || code != r.code {
			t.Errorf("Contents(%q) = %q, %d, not %q, %d", r.path, got, code, r.want, r.code)
		}
	}
}

func TestSum(t *testing.T) { // P8.4
	r := rand.New(rand.NewSource(84))
	trees := []api.Node{dir(), file(""), file("hello"), exec("hello"), link("a"), file(strings.Repeat("x", api.MaxArchive-112))}
	for range 200 {
		trees = append(trees, randomTree(r, 3))
	}
	for _, n := range trees {
		text := textOf(n)
		digest, size, code := listing.Sum(n)
		if digest != sha256.Sum256([]byte(text)) || size != len(text) || code != api.OK {
			t.Errorf("Sum: %x, %d, %d", digest, size, code)
		}
	}
	rows := []struct {
		n    api.Node
		code api.Errno
	}{
		{api.Node{}, api.ErrKind},
		{link(""), api.ErrTarget},
		{dir(in("a", file("")), in("a", file(""))), api.ErrOrder},
		{api.Node{Kind: api.Link, Text: "a", Exec: true}, api.ErrField},
		{file(strings.Repeat("x", api.MaxArchive-111)), api.ErrBig},
		{dir(in("a/b", file(""))), api.ErrByte},
	}
	for _, r := range rows {
		if digest, size, code := listing.Sum(r.n); digest != (api.Digest{}) || size != 0 || code != r.code {
			t.Errorf("Sum: %x, %d, %d, not %d", digest, size, code, r.code)
		}
	}
}

func TestRowsAreNewMemory(t *testing.T) { // rule 4
	text, want := archive(dir(in("a", file("x")), in("b", dir(in("a", link("c"))))))
	first, _ := listing.List(text)
	found, _ := listing.Find(text, "*")
	for _, rows := range [][]listing.Row{first[:cap(first)], found[:cap(found)]} {
		for i := range rows {
			rows[i] = listing.Row{}
		}
	}
	second, f := listing.List(text)
	if f != (api.Fault{}) || !slices.Equal(second, want) {
		t.Errorf("List again: %v, %v", second, f)
	}
}
