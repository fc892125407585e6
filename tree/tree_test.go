package tree_test

import (
	"math/rand"
	"slices"
	"strings"
	"testing"

	"depot/api"
	"depot/tree"
)

func TestTarget(t *testing.T) { // P6.1
	rows := map[string]api.Errno{
		"": api.ErrTarget, "\x00": api.ErrTarget, "a\x00": api.ErrTarget, "\x00a": api.ErrTarget, "a\x00b": api.ErrTarget,
		"a": api.OK, "/": api.OK, "..": api.OK, "../a//b": api.OK, "\xff": api.OK, " ": api.OK, strings.Repeat("n", 5000): api.OK,
	}
	for target, want := range rows {
		if got := tree.Target(target); got != want {
			t.Errorf("Target(%q) = %d", target, got)
		}
	}
}

type offence struct {
	what string
	n    api.Node
	path string
	code api.Errno
}

func checkOffences(t *testing.T, rows []offence) {
	t.Helper()
	for _, r := range rows {
		if path, code := tree.Check(r.n); path != r.path || code != r.code {
			t.Errorf("%s: %q, %d, not %q, %d", r.what, path, code, r.path, r.code)
		}
		size, code := tree.Size(r.n)
		if code != r.code || code != api.OK && size != 0 {
			t.Errorf("%s: Size: %d, %d", r.what, size, code)
		}
		if rows, code := tree.Walk(r.n); code != r.code || code != api.OK && len(rows) != 0 {
			t.Errorf("%s: Walk: %d", r.what, code)
		}
		if s := storyOf(r.n, nil, 0); s.path != r.path || s.code != r.code {
			t.Errorf("%s: the story is wrong: %q, %d", r.what, s.path, s.code)
		}
	}
}

func TestCheckOfFields(t *testing.T) { // P6.1
	kids := []api.Entry{in("", api.Node{})}
	checkOffences(t, []offence{
		{"file", file("a\x00b"), "", api.OK},
		{"empty file", file(""), "", api.OK},
		{"executable file", exec("x"), "", api.OK},
		{"link", link("a/../b"), "", api.OK},
		{"empty directory", dir(), "", api.OK},
		{"empty list of entries", api.Node{Kind: api.File, Kids: []api.Entry{}}, "", api.OK},
		{"zero node", api.Node{}, "", api.ErrKind},
		{"no kind, all fields", api.Node{Exec: true, Text: "x", Kids: kids}, "", api.ErrKind},
		{"kind 4", api.Node{Kind: 4}, "", api.ErrKind},
		{"kind -1", api.Node{Kind: -1}, "", api.ErrKind},
		{"file with entries", api.Node{Kind: api.File, Kids: kids}, "", api.ErrField},
		{"link with entries", api.Node{Kind: api.Link, Text: "x", Kids: kids}, "", api.ErrField},
		{"link with Exec", api.Node{Kind: api.Link, Text: "x", Exec: true}, "", api.ErrField},
		{"link with Exec and no target", api.Node{Kind: api.Link, Exec: true}, "", api.ErrField},
		{"link with no target", link(""), "", api.ErrTarget},
		{"link with a nought", link("a\x00"), "", api.ErrTarget},
		{"directory with Exec", api.Node{Kind: api.Dir, Exec: true}, "", api.ErrField},
		{"directory with a text", api.Node{Kind: api.Dir, Text: "x"}, "", api.ErrField},
		{"directory ahead of its entries", api.Node{Kind: api.Dir, Text: "x", Kids: kids}, "", api.ErrField},
		{"below", dir(in("a", file("")), in("b", dir(in("c", link(""))))), "b/c", api.ErrTarget},
		{"the first of two", dir(in("a", link("")), in("b", api.Node{})), "a", api.ErrTarget},
		{"below ahead of the next", dir(in("a", dir(in("x", api.Node{}))), in("..", file(""))), "a/x", api.ErrKind},
	})
}

func TestCheckOfNames(t *testing.T) { // P6.1
	long := strings.Repeat("n", 256)
	checkOffences(t, []offence{
		{"rising", dir(in("a", file("")), in("a!", file("")), in("ab", file("")), in("\xff", file(""))), "", api.OK},
		{"longest", dir(in(long[1:], file(""))), "", api.OK},
		{"empty", dir(in("", file(""))), "", api.ErrEmpty},
		{"empty below", dir(in("d", dir(in("", file(""))))), "d/", api.ErrEmpty},
		{"long", dir(in("d", dir(in(long, file(""))))), "d/" + long, api.ErrLong},
		{"slash", dir(in("d", dir(in("a/b", file(""))))), "d/a/b", api.ErrByte},
		{"nought", dir(in("d", dir(in("\x00", file(""))))), "d/\x00", api.ErrByte},
		{"dots", dir(in("d", dir(in("..", file(""))))), "d/..", api.ErrDots},
		{"twice", dir(in("a", file("")), in("a", file(""))), "a", api.ErrOrder},
		{"falling", dir(in("b", file("")), in("a", file(""))), "a", api.ErrOrder},
		{"falling below", dir(in("d", dir(in("ab", file("")), in("a", file(""))))), "d/a", api.ErrOrder},
		{"other directories don't matter", dir(in("b", dir(in("z", file("")))), in("c", dir(in("a", file(""))))), "", api.OK},
		{"the name ahead of the order", dir(in("b", file("")), in(".", file(""))), ".", api.ErrDots},
		{"an empty one ahead of the order", dir(in("b", file("")), in("", file(""))), "", api.ErrEmpty},
		{"the name ahead of the node", dir(in("a/", api.Node{})), "a/", api.ErrByte},
		{"the order ahead of the node", dir(in("b", file("")), in("a", api.Node{})), "a", api.ErrOrder},
		{"the node ahead of the next name", dir(in("b", api.Node{}), in("a", file(""))), "b", api.ErrKind},
	})
}

func TestCheckOfDepth(t *testing.T) { // P6.1
	way := strings.Repeat("d/", 31) + "d"
	checkOffences(t, []offence{
		{"32 nodes", nested(31, file("")), "", api.OK},
		{"33 nodes", nested(32, file("")), way, api.ErrDeep},
		{"40 nodes", nested(39, file("")), way, api.ErrDeep},
		{"the depth ahead of the kind", nested(32, api.Node{}), way, api.ErrDeep},
		{"the depth ahead of the fields", nested(32, api.Node{Kind: api.Dir, Exec: true}), way, api.ErrDeep},
		{"the name ahead of the depth", nested(31, dir(in("..", file("")))), way[:len(way)-1] + "..", api.ErrDots},
		{"the order ahead of the depth", nested(30, dir(in("b", file("")), in("a", nested(3, file(""))))), way[:60] + "a", api.ErrOrder},
		{"a fault at 32", nested(31, link("")), way[:61], api.ErrTarget},
		{"back up", dir(in("a", nested(30, dir())), in("b", nested(31, dir()))), "b/" + way[:len(way)-2], api.ErrDeep},
	})
	if path, code := tree.Check(nested(60000, file(""))); path != way || code != api.ErrDeep {
		t.Errorf("60000 deep: %q, %d", path, code)
	}
}

func TestCheckOfBytes(t *testing.T) { // P6.1, P6.2
	top := largest()
	inDir := top[:len(top)-96-72] // in a directory, under a name of at most 8 bytes
	twoKids := inDir[:len(inDir)-96-96]
	checkOffences(t, []offence{
		{"just small enough", file(top), "", api.OK},
		{"a byte too large", file(top + "x"), "", api.ErrBig},
		{"just small enough, executable", exec(top[:len(top)-32]), "", api.OK},
		{"a byte too large, executable", exec(top[:len(top)-31]), "", api.ErrBig},
		{"just small enough link", link(top), "", api.OK},
		{"a byte too large link", link(top + "x"), "", api.ErrBig},
		{"in a directory", dir(in("12345678", file(inDir))), "", api.OK},
		{"in a directory, too large", dir(in("12345678", file(inDir+"x"))), "12345678", api.ErrBig},
		{"with a longer name", dir(in("123456789", file(inDir))), "123456789", api.ErrBig},
		{"beside a file", dir(in("a", file(twoKids)), in("b", file("x"))), "", api.OK},
		{"beside a file, too large", dir(in("a", file(twoKids)), in("b", file("123456789"))), "b", api.ErrBig},
		{"the last entry's node", dir(in("a", file(inDir[:len(inDir)-96])), in("b", file(""))), "b", api.ErrBig},
		{"the entry ahead of its node's kind", dir(in("a", file(inDir)), in("b", api.Node{})), "b", api.ErrBig},
		{"the entry fits: its node's kind", dir(in("a", file(inDir[:len(inDir)-96])), in("b", api.Node{})), "b", api.ErrKind},
		{"the entry doesn't fit by a byte", dir(in("a", file(inDir[:len(inDir)-95])), in("b", api.Node{})), "b", api.ErrBig},
		{"the name ahead of the bytes", dir(in("a", file(inDir)), in("..", file(""))), "..", api.ErrDots},
		{"the order ahead of the bytes", dir(in("b", file(inDir)), in("a", file(""))), "a", api.ErrOrder},
		{"the fields ahead of the bytes", api.Node{Kind: api.Dir, Text: top + top}, "", api.ErrField},
		{"the kind ahead of the bytes", api.Node{Kind: 9, Text: top + top}, "", api.ErrKind},
		{"the target ahead of the bytes", link(top + top + "\x00"), "", api.ErrTarget},
		{"the bytes ahead of the next entry", dir(in("a", file(top)), in("..", file(""))), "a", api.ErrBig},
	})
}

func TestCheckOfBytesAndDepth(t *testing.T) { // P6.1
	// At the 32nd node, an empty directory yet, MaxArchive bytes have been counted, or less by so many.
	withRoom := func(room int) api.Node {
		ahead := 24 + 30*(72+96) + 72 + 96 + 88 + 96 + 72 + room
		return nested(30, dir(in("a", file(strings.Repeat("x", api.MaxArchive-ahead))), in("d", dir(in("e", file(""))))))
	}
	way := strings.Repeat("d/", 31) + "e"
	checkOffences(t, []offence{
		{"the entry's bytes ahead of the depth", withRoom(0), way, api.ErrBig},
		{"the entry's bytes by eight", withRoom(88), way, api.ErrBig},
		{"the depth ahead of the node's bytes", withRoom(96), way, api.ErrDeep},
	})
}

func TestSize(t *testing.T) { // P6.2
	rows := []struct {
		n    api.Node
		want int
	}{
		{dir(in("a", file("x"))), 288},
		{dir(), 96},
		{file(""), 24 + 48 + 32 + 8},
		{file("hello"), 24 + 48 + 32 + 16},
		{file("12345678"), 24 + 48 + 32 + 16},
		{file("123456789"), 24 + 48 + 32 + 24},
		{exec(""), 24 + 48 + 32 + 8 + 32},
		{link("a"), 24 + 48 + 32 + 16},
		{dir(in("a", dir()), in("123456789", dir())), 0},
		{dir(in("123456789", dir()), in("a", dir())), 96 + 2*72 + 2*80 + 24 + 16},
		{file(largest()), api.MaxArchive},
	}
	for _, r := range rows {
		size, code := tree.Size(r.n)
		if size != r.want || (code == api.OK) != (r.want > 0) {
			t.Errorf("Size = %d, %d, not %d", size, code, r.want)
		}
	}
}

func TestCheckOfRandomTrees(t *testing.T) { // P6.1, P6.2, P6.4
	r := rand.New(rand.NewSource(6))
	for i := range 3000 {
		n := randomTree(r, 4)
		for range i % 4 {
			spoil(r, &n)
		}
		want := storyOf(n, nil, 0)
		if path, code := tree.Check(n); path != want.path || code != want.code {
			t.Fatalf("Check: %q, %d, not %q, %d", path, code, want.path, want.code)
		}
		if size, code := tree.Size(n); size != want.size || code != want.code {
			t.Fatalf("Size: %d, %d, not %d, %d", size, code, want.size, want.code)
		}
		var wantRows []tree.Row
		if want.code == api.OK {
			wantRows = rowsOf(n, "")
		}
		if rows, code := tree.Walk(n); code != want.code || !slices.Equal(rows, wantRows) {
			t.Fatalf("Walk: %v, %d", rows, code)
		}
	}
}

func TestEqual(t *testing.T) { // P6.3
	all := []api.Node{
		{}, {Text: "x"}, {Exec: true}, {Kids: []api.Entry{{}}}, {Kids: []api.Entry{{}, {}}}, {Kind: -3}, {Kind: 7, Exec: true, Text: "x", Kids: []api.Entry{{Name: "/"}}},
		file(""), file("x"), file("x\x00"), exec("x"), link("x"), link(""), dir(),
		dir(in("a", file(""))), dir(in("b", file(""))), dir(in("a", file("x"))), dir(in("a", link("x"))), dir(in("a", dir())),
		dir(in("a", file("")), in("b", file(""))), dir(in("b", file("")), in("a", file(""))), dir(in("a", file("")), in("a", file(""))),
		dir(in("a", dir(in("b", dir(in("c", file(""))))))), dir(in("a", dir(in("b", dir(in("c", exec(""))))))), dir(in("a", dir(in("b", dir(in("d", file(""))))))),
		dir(in("a", dir(in("b", file("")))), in("c", file(""))), dir(in("a", dir()), in("b", file("")), in("c", file(""))),
		nested(60000, file("x")), nested(60000, file("y")), nested(59999, file("x")),
	}
	for i, a := range all {
		for j, b := range all {
			if got := tree.Equal(a, tree.Copy(b)); got != (i == j) {
				t.Errorf("Equal of %d and %d: %v", i, j, got)
			}
		}
	}
	if !tree.Equal(dir(), api.Node{Kind: api.Dir, Kids: []api.Entry{}}) || !tree.Equal(dir(), api.Node{Kind: api.Dir, Kids: make([]api.Entry, 0, 3)}) {
		t.Error("an empty list may be nil or not")
	}
}

func TestCopyIsNewMemory(t *testing.T) { // P6.3, rule 4
	r := rand.New(rand.NewSource(63))
	for i := range 300 {
		n := randomTree(r, 4)
		for range i % 4 {
			spoil(r, &n)
		}
		kept := frozen(n)
		c := tree.Copy(n)
		if !tree.Equal(c, n) {
			t.Fatal("Copy isn't equal")
		}
		other := tree.Copy(c)
		scribble(&c)
		if !tree.Equal(frozen(n), kept) || !tree.Equal(other, n) {
			t.Fatal("Copy shares memory")
		}
	}
}
