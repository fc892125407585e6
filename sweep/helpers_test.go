package sweep_test

import (
	"fmt"
	"maps"
	"math/rand"
	"slices"
	"strings"
	"testing"

	"depot/api"
	"depot/listing"
	"depot/store"
	"depot/sweep"
)

func file(text string) api.Node { return api.Node{Kind: api.File, Text: text} }

func dir() api.Node { return api.Node{Kind: api.Dir} }

// bulk: a file whose archive has so many bytes, from 112 on, in steps of 8.
func bulk(size int) api.Node { return file(strings.Repeat("x", size-112)) }

// at: a path whose hash is so many times one letter.
func at(letter byte) string { return "/depot/store/" + strings.Repeat(string(letter), 32) + "-x" }

// numbered: a path for each number, rising with it.
func numbered(i int) string { return fmt.Sprintf("/depot/store/%032d-n", i) }

// record: what a store keeps of a tree.
func record(path string, n api.Node, refs ...string) api.Record {
	r := api.Record{Path: path, Tree: n, Refs: refs}
	r.Hash, r.Size, _ = listing.Sum(n)
	return r
}

// filled: a store into which these records came.
func filled(t *testing.T, records ...api.Record) *store.Store {
	t.Helper()
	s := store.New()
	for _, r := range records {
		if code := s.Insert(r); code != api.OK {
			t.Fatalf("Insert of %s = %d", r.Path, code)
		}
	}
	return s
}

// model is records under their paths.
type model map[string]api.Record

func modelOf(records []api.Record) model {
	m := model{}
	for _, r := range records {
		m[r.Path] = r
	}
	return m
}

func (m model) paths() []string { return slices.Sorted(maps.Keys(m)) }

// live goes on taking references in till there are no new ones.
func (m model) live(roots []string) []string {
	set := map[string]bool{}
	for _, root := range roots {
		if _, there := m[root]; there {
			set[root] = true
		}
	}
	for size := -1; size != len(set); {
		size = len(set)
		for _, path := range slices.Collect(maps.Keys(set)) {
			for _, ref := range m[path].Refs {
				set[ref] = true
			}
		}
	}
	return slices.Sorted(maps.Keys(set))
}

func (m model) dead(roots []string) []string {
	live := m.live(roots)
	return slices.DeleteFunc(m.paths(), func(path string) bool { return slices.Contains(live, path) })
}

// free: does no other path refer to this one?
func (m model) free(path string) bool {
	for other, r := range m {
		if other != path && slices.Contains(r.Refs, path) {
			return false
		}
	}
	return true
}

// count: the last use of a path counts.
func count(uses []sweep.Use, path string) int {
	n := 0
	for _, use := range uses {
		if use.Path == path {
			n = use.Count
		}
	}
	return n
}

// score: by the document's words.
func score(size, uses int) float64 {
	s, u := 0.0, 0.0
	if size > 0 {
		s = float64(size)
	}
	if uses > 0 {
		u = float64(uses)
	}
	u += 1
	return s / u
}

// collect takes out of the model, again and again, the best of all that may go.
func (m model) collect(roots []string, uses []sweep.Use, want int) ([]string, int) {
	dead := m.dead(roots)
	var went []string
	gained := 0
	for gained < want {
		best, top := "", -1.0
		for _, path := range dead { // rising: so of equal scores the least path
			r, there := m[path]
			if s := score(r.Size, count(uses, path)); there && m.free(path) && s > top {
				best, top = path, s
			}
		}
		if best == "" {
			break
		}
		gained += m[best].Size
		went = append(went, best)
		delete(m, best)
	}
	return went, gained
}

// holdStore: the store has the model's records and no others, and knows who refers to whom.
func holdStore(t *testing.T, s *store.Store, want model) {
	t.Helper()
	if got := s.Paths(); !slices.Equal(got, want.paths()) {
		t.Fatalf("the store has %q, not %q", got, want.paths())
	}
	bytes := 0
	for path, r := range want {
		bytes += r.Size
		if got, code := s.Get(path); code != api.OK || !store.Same(got, r) {
			t.Fatalf("under %s: %v, %d, not %v", path, got, code, r)
		}
		if users, code := s.Referrers(path); code != api.OK || (len(users) == 0) != want.free(path) {
			t.Fatalf("Referrers(%s) = %q, %d", path, users, code)
		}
	}
	if s.Bytes() != bytes {
		t.Fatalf("Bytes = %d, not %d", s.Bytes(), bytes)
	}
}

func scribble(list []string) {
	list = list[:cap(list)]
	for i := range list {
		list[i] = "scribbled"
	}
}

// holdSweep asks everything of a store with these records, with these arguments, and holds it against the model; every answer is written over.
func holdSweep(t *testing.T, records []api.Record, roots []string, uses []sweep.Use, want int) {
	t.Helper()
	s := filled(t, records...)
	givenRoots, givenUses := slices.Clone(roots), slices.Clone(uses)
	m := modelOf(records)
	live, dead := sweep.Live(s, roots), sweep.Dead(s, roots)
	if !slices.Equal(live, m.live(roots)) || !slices.Equal(dead, m.dead(roots)) {
		t.Fatalf("with the roots %q: Live %q, Dead %q, not %q, %q", roots, live, dead, m.live(roots), m.dead(roots))
	}
	scribble(live)
	scribble(dead)
	left := maps.Clone(m)
	paths, gained := left.collect(roots, uses, want)
	for range 2 {
		got, n := sweep.Plan(s, roots, uses, want)
		if !slices.Equal(got, paths) || n != gained {
			t.Fatalf("Plan(%q, %v, %d) = %q, %d, not %q, %d", roots, uses, want, got, n, paths, gained)
		}
		scribble(got)
		holdStore(t, s, m)
	}
	fork := s.Fork()
	got, n := sweep.Collect(s, roots, uses, want)
	if !slices.Equal(got, paths) || n != gained {
		t.Fatalf("Collect(%q, %v, %d) = %q, %d, not %q, %d", roots, uses, want, got, n, paths, gained)
	}
	scribble(got)
	holdStore(t, s, left)
	holdStore(t, fork, m)
	if !slices.Equal(roots, givenRoots) || !slices.Equal(uses, givenUses) {
		t.Fatal("an argument was changed")
	}
}

// randomRecords: records of few sizes, of which each refers to some of those ahead of it, and perhaps to itself.
func randomRecords(r *rand.Rand, most int) []api.Record {
	const letters = "0123456789abcdfghijklmnpqrsvwxyz"
	var list []api.Record
	for _, i := range r.Perm(len(letters))[:r.Intn(most+1)] {
		path := at(letters[i])
		var refs []string
		for _, ahead := range list {
			if r.Intn(4) == 0 {
				refs = append(refs, ahead.Path)
			}
		}
		if r.Intn(3) == 0 {
			refs = append(refs, path)
		}
		slices.Sort(refs)
		list = append(list, record(path, bulk(120*(1+r.Intn(3))), refs...))
	}
	return list
}

// randomRoots: some of the paths, some twice, and some that aren't there.
func randomRoots(r *rand.Rand, records []api.Record) []string {
	var roots []string
	for range r.Intn(4) {
		if len(records) > 0 {
			roots = append(roots, records[r.Intn(len(records))].Path)
		}
		if r.Intn(3) == 0 {
			roots = append(roots, []string{"", "x", at('e'), numbered(7)}[r.Intn(4)])
		}
	}
	return roots
}

// randomUses: of some paths, of some several times, and of some that aren't there; scores come out equal often.
func randomUses(r *rand.Rand, records []api.Record) []sweep.Use {
	var uses []sweep.Use
	for range r.Intn(12) {
		path := []string{"", "x", numbered(7)}[r.Intn(3)]
		if len(records) > 0 && r.Intn(8) > 0 {
			path = records[r.Intn(len(records))].Path
		}
		uses = append(uses, sweep.Use{Path: path, Count: r.Intn(6) - 2})
	}
	return uses
}
