package nar_test

import (
	"math/rand"
	"strings"
	"testing"

	"depot/api"
	"depot/nar"
	"depot/tree"
)

func TestSerialBytes(t *testing.T) { // P7.1
	empty := "\x0f\x00\x00\x00\x00\x00\x00\x00depot-archive-1\x00" +
		"\x01\x00\x00\x00\x00\x00\x00\x00(\x00\x00\x00\x00\x00\x00\x00" +
		"\x04\x00\x00\x00\x00\x00\x00\x00type\x00\x00\x00\x00" +
		"\x09\x00\x00\x00\x00\x00\x00\x00directory\x00\x00\x00\x00\x00\x00\x00" +
		"\x01\x00\x00\x00\x00\x00\x00\x00)\x00\x00\x00\x00\x00\x00\x00"
	if got, code := nar.Serial(dir()); got != empty || len(got) != 96 || code != api.OK {
		t.Errorf("an empty directory: %q, %d", got, code)
	}
}

func TestSerialWords(t *testing.T) { // P7.1
	rows := []struct {
		n     api.Node
		words []string
	}{
		{file("hello"), []string{"(", "type", "regular", "contents", "hello", ")"}},
		{file(""), []string{"(", "type", "regular", "contents", "", ")"}},
		{exec("hi"), []string{"(", "type", "regular", "executable", "", "contents", "hi", ")"}},
		{exec(""), []string{"(", "type", "regular", "executable", "", "contents", "", ")"}},
		{link("a/../b"), []string{"(", "type", "symlink", "target", "a/../b", ")"}},
		{dir(in("b", file("12345678")), in("c", dir(in("d", link("e"))))), []string{"(", "type", "directory",
			"entry", "(", "name", "b", "node", "(", "type", "regular", "contents", "12345678", ")", ")",
			"entry", "(", "name", "c", "node", "(", "type", "directory",
			"entry", "(", "name", "d", "node", "(", "type", "symlink", "target", "e", ")", ")", ")", ")", ")"}},
	}
	for _, r := range rows {
		if got, code := nar.Serial(r.n); got != framed("depot-archive-1")+framed(r.words...) || code != api.OK {
			t.Errorf("Serial(%v) = %q, %d", r.n, got, code)
		}
	}
}

func TestSerialRefuses(t *testing.T) { // P7.1
	rows := []struct {
		n    api.Node
		code api.Errno
	}{
		{api.Node{}, api.ErrKind},
		{api.Node{Kind: 4}, api.ErrKind},
		{link(""), api.ErrTarget},
		{api.Node{Kind: api.Dir, Exec: true}, api.ErrField},
		{dir(in("b", file("")), in("a", file(""))), api.ErrOrder},
		{dir(in("", file(""))), api.ErrEmpty},
		{dir(in("a", dir(in("..", file(""))))), api.ErrDots},
		{nested(32, file("")), api.ErrDeep},
		{nested(60000, file("")), api.ErrDeep},
		{file(strings.Repeat("x", api.MaxArchive-111)), api.ErrBig},
	}
	for _, r := range rows {
		if got, code := nar.Serial(r.n); got != "" || code != r.code {
			t.Errorf("Serial: %d bytes, %d, not %d", len(got), code, r.code)
		}
	}
}

func TestThereAndBack(t *testing.T) { // P7.1, P7.4
	r := rand.New(rand.NewSource(71))
	for range 1000 {
		n := randomTree(r, 4)
		text, code := nar.Serial(n)
		if code != api.OK || text != archive(n) {
			t.Fatalf("Serial(%v) = %q, %d", n, text, code)
		}
		if size, _ := tree.Size(n); size != len(text) {
			t.Fatalf("%d bytes, not %d", len(text), size)
		}
		if m, f := nar.Parse(text); f != (api.Fault{}) || !tree.Equal(m, n) {
			t.Fatalf("Parse of %v: %v, %v", n, m, f)
		}
	}
	for _, n := range []api.Node{nested(31, file("x")), nested(31, dir()), file(strings.Repeat("x", api.MaxArchive-112)), dir(in(strings.Repeat("n", 255), link("\xff")))} {
		text, code := nar.Serial(n)
		if m, f := nar.Parse(text); code != api.OK || f != (api.Fault{}) || !tree.Equal(m, n) {
			t.Errorf("there and back: %d, %v", code, f)
		}
	}
}

func TestSerialKeepsAndChangesNothing(t *testing.T) { // rule 4
	room := []api.Entry{in("a", file("x")), in("b", dir()), in("spare", file("kept"))}
	n := api.Node{Kind: api.Dir, Kids: room[:2]}
	want := archive(n)
	got, _ := nar.Serial(n)
	if room[2].Name != "spare" || room[2].Node.Text != "kept" || room[0].Name != "a" {
		t.Error("Serial changed what it was given")
	}
	scribble(&n)
	if got != want {
		t.Error("the archive changed with the tree")
	}
}
