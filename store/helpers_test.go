package store_test

import (
	"crypto/sha256"
	"encoding/binary"
	"fmt"
	"maps"
	"reflect"
	"slices"
	"strings"
	"testing"

	"depot/api"
	"depot/store"
)

func file(text string) api.Node { return api.Node{Kind: api.File, Text: text} }

func exec(text string) api.Node { return api.Node{Kind: api.File, Exec: true, Text: text} }

func link(target string) api.Node { return api.Node{Kind: api.Link, Text: target} }

func dir(kids ...api.Entry) api.Node { return api.Node{Kind: api.Dir, Kids: kids} }

func in(name string, n api.Node) api.Entry { return api.Entry{Name: name, Node: n} }

// nested: a node below so many directories.
func nested(levels int, n api.Node) api.Node {
	for range levels {
		n = dir(in("d", n))
	}
	return n
}

// framed: words with their lengths ahead and noughts behind.
func framed(words ...string) string {
	var b []byte
	for _, w := range words {
		b = binary.LittleEndian.AppendUint64(b, uint64(len(w)))
		b = append(b, w...)
		for len(b)%8 != 0 {
			b = append(b, 0)
		}
	}
	return string(b)
}

// words: those of a node in an archive.
func words(n api.Node) []string {
	switch {
	case n.Kind == api.File && n.Exec:
		return []string{"(", "type", "regular", "executable", "", "contents", n.Text, ")"}
	case n.Kind == api.File:
		return []string{"(", "type", "regular", "contents", n.Text, ")"}
	case n.Kind == api.Link:
		return []string{"(", "type", "symlink", "target", n.Text, ")"}
	}
	list := []string{"(", "type", "directory"}
	for _, kid := range n.Kids {
		list = append(list, "entry", "(", "name", kid.Name, "node")
		list = append(list, words(kid.Node)...)
		list = append(list, ")")
	}
	return append(list, ")")
}

// sum: the digest and the bytes of a tree's archive, by the document's words and the library's digest.
func sum(n api.Node) (api.Digest, int) {
	archive := framed("depot-archive-1") + framed(words(n)...)
	return sha256.Sum256([]byte(archive)), len(archive)
}

// at: a path whose hash is so many times one letter.
func at(letter byte, label string) string {
	return "/depot/store/" + strings.Repeat(string(letter), 32) + "-" + label
}

// numbered: a path for each number, rising with it.
func numbered(i int) string { return fmt.Sprintf("/depot/store/%032d-n", i) }

// record: what a store keeps of a tree.
func record(path string, n api.Node, refs ...string) api.Record {
	r := api.Record{Path: path, Tree: n, Refs: refs}
	r.Hash, r.Size = sum(n)
	return r
}

// filled: a store into which these records came.
func filled(t *testing.T, records ...api.Record) *store.Store {
	t.Helper()
	s := store.New()
	for _, r := range records {
		if code := s.Insert(r); code != api.OK {
			t.Fatalf("Insert of %s = %d", r.Path, code)
		}
	}
	return s
}

// model is what the document says of a store: records under their paths.
type model map[string]api.Record

func modelOf(records ...api.Record) model {
	m := model{}
	for _, r := range records {
		m[r.Path] = r
	}
	return m
}

func (m model) paths() []string { return slices.Sorted(maps.Keys(m)) }

func (m model) bytes() int {
	sum := 0
	for _, r := range m {
		sum += r.Size
	}
	return sum
}

func (m model) referrers(path string) []string {
	var list []string
	for _, other := range m.paths() {
		if other != path && slices.Contains(m[other].Refs, path) {
			list = append(list, other)
		}
	}
	return list
}

// closure goes on taking references in till there are no new ones.
func (m model) closure(roots []string) ([]string, api.Errno) {
	set := map[string]bool{}
	for _, root := range roots {
		if _, there := m[root]; !there {
			return nil, api.ErrMissing
		}
		set[root] = true
	}
	for size := -1; size != len(set); {
		size = len(set)
		for _, path := range slices.Collect(maps.Keys(set)) {
			for _, ref := range m[path].Refs {
				set[ref] = true
			}
		}
	}
	return slices.Sorted(maps.Keys(set)), api.OK
}

// order takes the least path that may come, again and again.
func (m model) order(roots []string) ([]string, api.Errno) {
	left, code := m.closure(roots)
	if code != api.OK {
		return nil, code
	}
	var order []string
	for len(left) > 0 {
		next := slices.IndexFunc(left, func(path string) bool {
			for _, ref := range m[path].Refs {
				if ref != path && !slices.Contains(order, ref) {
					return false
				}
			}
			return true
		})
		order = append(order, left[next])
		left = slices.Delete(left, next, next+1)
	}
	return order, api.OK
}

// plain: an empty list is nil, in every list of a tree too, so that reflect finds the same what is the same.
func plain(r api.Record) api.Record {
	r.Tree = plainTree(r.Tree)
	if len(r.Refs) == 0 {
		r.Refs = nil
	}
	return r
}

func plainTree(n api.Node) api.Node {
	var kids []api.Entry
	for _, kid := range n.Kids {
		kids = append(kids, api.Entry{Name: kid.Name, Node: plainTree(kid.Node)})
	}
	n.Kids = kids
	return n
}

func same(a, b api.Record) bool { return reflect.DeepEqual(plain(a), plain(b)) }

// scribble writes over all memory that can be reached from a record, spare room too.
func scribble(r *api.Record) {
	scribbleTree(&r.Tree)
	scribbleList(r.Refs)
}

func scribbleTree(n *api.Node) {
	kids := n.Kids[:cap(n.Kids)]
	for i := range kids {
		scribbleTree(&kids[i].Node)
		kids[i] = in("scribbled", file("scribbled"))
	}
}

func scribbleList(list []string) {
	list = list[:cap(list)]
	for i := range list {
		list[i] = "scribbled"
	}
}

// holdAgainst asks the store everything, of the model's paths and of others, writes over every answer, and holds all of them against the model.
func holdAgainst(t *testing.T, s *store.Store, want model, others ...string) {
	t.Helper()
	paths := want.paths()
	got := s.Paths()
	if !slices.Equal(got, paths) || s.Len() != len(paths) || s.Bytes() != want.bytes() {
		t.Fatalf("Paths = %q, Len = %d, Bytes = %d, not %q, %d", got, s.Len(), s.Bytes(), paths, want.bytes())
	}
	scribbleList(got)
	for _, path := range slices.Concat(paths, others, []string{"", "x", "/depot/store/"}) {
		kept, there := want[path]
		code := api.OK
		if !there {
			code = api.ErrMissing
		}
		if s.Has(path) != there {
			t.Fatalf("Has(%q) = %v", path, !there)
		}
		r, c := s.Get(path)
		if c != code || !same(r, kept) {
			t.Fatalf("Get(%q) = %v, %d, not %v, %d", path, r, c, kept, code)
		}
		scribble(&r)
		refs, c := s.Refs(path)
		if c != code || !slices.Equal(refs, kept.Refs) {
			t.Fatalf("Refs(%q) = %q, %d, not %q, %d", path, refs, c, kept.Refs, code)
		}
		scribbleList(refs)
		users, c := s.Referrers(path)
		if c != code || !slices.Equal(users, want.referrers(path)) {
			t.Fatalf("Referrers(%q) = %q, %d, not %q, %d", path, users, c, want.referrers(path), code)
		}
		scribbleList(users)
		holdRoots(t, s, want, path)
	}
	holdRoots(t, s, want)
	holdRoots(t, s, want, paths...)
	if r, code := s.Get(""); code != api.ErrMissing || !same(r, api.Record{}) {
		t.Fatalf("Get of the empty text = %v, %d", r, code)
	}
}

// holdRoots holds Closure and Order of some roots against the model.
func holdRoots(t *testing.T, s *store.Store, want model, roots ...string) {
	t.Helper()
	given := slices.Clone(roots)
	closure, code := want.closure(roots)
	got, c := s.Closure(roots)
	if c != code || !slices.Equal(got, closure) {
		t.Fatalf("Closure(%q) = %q, %d, not %q, %d", roots, got, c, closure, code)
	}
	scribbleList(got)
	order, code := want.order(roots)
	got, c = s.Order(roots)
	if c != code || !slices.Equal(got, order) {
		t.Fatalf("Order(%q) = %q, %d, not %q, %d", roots, got, c, order, code)
	}
	scribbleList(got)
	if !slices.Equal(roots, given) {
		t.Fatal("the roots were changed")
	}
}
