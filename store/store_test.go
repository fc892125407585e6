package store_test

import (
	"fmt"
	"maps"
	"math"
	"math/rand"
	"slices"
	"strings"
	"testing"

	"depot/api"
	"depot/spath"
	"depot/store"
)

func TestNew(t *testing.T) { // P17.1
	s, other := store.New(), store.New()
	holdAgainst(t, s, nil, at('0', "a"))
	if code := s.Insert(record(at('0', "a"), dir())); code != api.OK {
		t.Fatal(code)
	}
	holdAgainst(t, other, nil, at('0', "a"))
}

func TestInsert(t *testing.T) { // P17.1, P17.2, P17.4
	a := record(at('1', "a"), file("x"))
	b := record(at('0', "b"), dir(in("a", exec("")), in("b", link("c"))), a.Path)
	c := record(at('2', "c"), file(""), b.Path, a.Path, at('2', "c")) // its own path is among them
	d := record(at('1', "b"), file("x"), a.Path, c.Path)              // the tree that a has
	e := record(at('z', "a"), link("x"), at('z', "a"))
	slices.Sort(c.Refs)
	s := store.New()
	want := model{}
	for _, r := range []api.Record{a, b, c, d, e} {
		if code := s.Insert(r); code != api.OK {
			t.Fatalf("Insert of %s = %d", r.Path, code)
		}
		want[r.Path] = r
		holdAgainst(t, s, want, a.Path, b.Path, c.Path, d.Path, e.Path)
	}
	if s.Bytes() != 120+a.Size+b.Size+c.Size+e.Size {
		t.Errorf("Bytes = %d", s.Bytes())
	}
}

func TestInsertAgain(t *testing.T) { // P17.4: the same changes nothing
	a, b := record(at('1', "a"), file("x")), record(at('0', "b"), dir(), at('0', "b"), at('1', "a"))
	s := filled(t, a, b)
	for _, r := range []api.Record{a, b, a} {
		r.Refs = slices.Clone(r.Refs)
		if code := s.Insert(r); code != api.OK {
			t.Errorf("Insert again = %d", code)
		}
		holdAgainst(t, s, modelOf(a, b))
	}
	a.Refs, a.Tree.Kids = []string{}, []api.Entry{} // empty lists, nil or not, are the same
	if code := s.Insert(a); code != api.OK {
		t.Errorf("Insert with empty lists = %d", code)
	}
}

// refused: the ways of a record to be wrong, in the order in which they are asked for; the store has at('1', "a"), at('3', "c") and the path of the record, with another tree.
func refused() []struct {
	code api.Errno
	do   func(r *api.Record)
} {
	many := make([]string, api.MaxRefs+1)
	for i := range many {
		many[i] = numbered(i)
	}
	return []struct {
		code api.Errno
		do   func(r *api.Record)
	}{
		{api.ErrPath, func(r *api.Record) { r.Path = "x" }},
		{api.ErrHash, func(r *api.Record) { r.Path = at('e', "x") }},
		{api.ErrName, func(r *api.Record) { r.Path = at('2', "x/y") }},
		{api.ErrDeep, func(r *api.Record) { r.Tree = nested(32, file("")) }},
		{api.ErrSize, func(r *api.Record) { r.Size++ }},
		{api.ErrHash, func(r *api.Record) { r.Hash[31] ^= 128 }},
		{api.ErrMany, func(r *api.Record) { r.Refs = many }},
		{api.ErrRefs, func(r *api.Record) { r.Refs = []string{at('3', "c"), at('1', "a")} }},
		{api.ErrMissing, func(r *api.Record) { r.Refs = []string{at('1', "a"), at('4', "d")} }},
		{api.ErrClash, func(r *api.Record) {}},
	}
}

func TestInsertRefuses(t *testing.T) { // P17.4: each error by itself, and ahead of all that are named behind it
	a, b, c := record(at('1', "a"), file("x")), record(at('2', "b"), file("y")), record(at('3', "c"), dir())
	s := filled(t, a, c, b)
	ways := refused()
	for i, way := range ways {
		alone := record(b.Path, file("other"))
		way.do(&alone)
		if code := s.Insert(alone); code != way.code {
			t.Errorf("%d: Insert = %d, not %d", i, code, way.code)
		}
		all := record(b.Path, file("other"))
		for j := len(ways) - 1; j >= i; j-- {
			ways[j].do(&all)
		}
		if code := s.Insert(all); code != way.code {
			t.Errorf("%d with all behind it: Insert = %d, not %d", i, code, way.code)
		}
		holdAgainst(t, s, modelOf(a, b, c), alone.Path, at('4', "d"))
	}
}

func TestInsertOfWrongFields(t *testing.T) { // P17.4
	a := record(at('1', "a"), file("x"))
	rows := []struct {
		code api.Errno
		do   func(r *api.Record)
	}{
		{api.ErrPath, func(r *api.Record) { r.Path = "" }},
		{api.ErrPath, func(r *api.Record) { r.Path += "\x00"; r.Path = r.Path[1:] }},
		{api.ErrName, func(r *api.Record) { r.Path += "\x00" }},
		{api.ErrName, func(r *api.Record) { r.Path = at('2', "") }},
		{api.ErrName, func(r *api.Record) { r.Path = at('2', strings.Repeat("l", api.MaxLabel+1)) }},
		{api.ErrKind, func(r *api.Record) { r.Tree = api.Node{} }},
		{api.ErrTarget, func(r *api.Record) { r.Tree = link("") }},
		{api.ErrField, func(r *api.Record) { r.Tree.Kids = []api.Entry{in("a", file(""))} }},
		{api.ErrOrder, func(r *api.Record) { r.Tree = dir(in("b", file("")), in("a", file(""))) }},
		{api.ErrDots, func(r *api.Record) { r.Tree = dir(in("..", file(""))) }},
		{api.ErrDeep, func(r *api.Record) { r.Tree = nested(60000, file("")) }},
		{api.ErrBig, func(r *api.Record) { r.Tree = file(strings.Repeat("x", api.MaxArchive-111)) }},
		{api.ErrSize, func(r *api.Record) { r.Size = 0 }},
		{api.ErrSize, func(r *api.Record) { r.Size = -r.Size }},
		{api.ErrSize, func(r *api.Record) { r.Size-- }},
		{api.ErrSize, func(r *api.Record) { r.Size = math.MinInt }},
		{api.ErrSize, func(r *api.Record) { r.Size += 1 << 32 }},
		{api.ErrHash, func(r *api.Record) { r.Hash = api.Digest{} }},
		{api.ErrHash, func(r *api.Record) { r.Hash[0]++ }},
		{api.ErrRefs, func(r *api.Record) { r.Refs = []string{""} }},
		{api.ErrRefs, func(r *api.Record) { r.Refs = []string{a.Path, a.Path} }},
		{api.ErrRefs, func(r *api.Record) { r.Refs = []string{a.Path, at('e', "x")} }},
		{api.ErrRefs, func(r *api.Record) { r.Refs = []string{r.Path, a.Path} }},
		{api.ErrMissing, func(r *api.Record) { r.Refs = []string{at('0', "a"), a.Path} }},
		{api.ErrMissing, func(r *api.Record) { r.Refs = []string{a.Path, r.Path + "x"} }},
		{api.ErrMissing, func(r *api.Record) { r.Refs = []string{a.Path, r.Path, at('3', "a")} }},
	}
	for i, row := range rows {
		s := filled(t, a)
		r := record(at('2', "b"), file("y"))
		row.do(&r)
		if code := s.Insert(r); code != row.code {
			t.Errorf("%d: Insert = %d, not %d", i, code, row.code)
		}
		holdAgainst(t, s, modelOf(a), at('2', "b"), r.Path)
	}
}

func TestInsertClashes(t *testing.T) { // P17.4: what is there, with another tree or other references
	a, b := record(at('1', "a"), file("x")), record(at('0', "b"), file("y"))
	kept := record(at('2', "c"), dir(in("n", file("z"))), a.Path)
	others := []api.Record{
		record(kept.Path, dir(in("n", file("Z"))), a.Path),
		record(kept.Path, dir(in("n", exec("z"))), a.Path),
		record(kept.Path, dir(in("m", file("z"))), a.Path),
		record(kept.Path, dir(), a.Path),
		record(kept.Path, kept.Tree),
		record(kept.Path, kept.Tree, b.Path),
		record(kept.Path, kept.Tree, b.Path, a.Path),
		record(kept.Path, kept.Tree, a.Path, kept.Path),
	}
	for i, r := range others {
		s := filled(t, a, b, kept)
		if code := s.Insert(r); code != api.ErrClash {
			t.Errorf("%d: Insert = %d", i, code)
		}
		holdAgainst(t, s, modelOf(a, b, kept))
	}
}

func TestInsertAtTheEdges(t *testing.T) { // P17.4: MaxRefs references, an archive of MaxArchive bytes, MaxDepth nodes, a label of MaxLabel bytes
	s := store.New()
	var refs []string
	for i := range api.MaxRefs - 1 {
		r := record(numbered(i), file(""))
		if i > 0 {
			r.Refs = refs[i-1:]
		}
		if code := s.Insert(r); code != api.OK {
			t.Fatal(code)
		}
		refs = append(refs, r.Path)
	}
	big := record(at('z', strings.Repeat("l", api.MaxLabel)), file(strings.Repeat("x", api.MaxArchive-112)), refs...)
	big.Refs = append(big.Refs, big.Path)
	deep := record(at('y', "a"), nested(31, link("x")), big.Path)
	if len(big.Refs) != api.MaxRefs || big.Size != api.MaxArchive {
		t.Fatalf("%d references, %d bytes", len(big.Refs), big.Size)
	}
	for _, r := range []api.Record{big, deep} {
		if code := s.Insert(r); code != api.OK {
			t.Errorf("Insert of %.60s = %d", r.Path, code)
		}
		if got, code := s.Get(r.Path); code != api.OK || !same(got, r) {
			t.Errorf("Get of %.60s: %d", r.Path, code)
		}
	}
	if order, code := s.Order([]string{deep.Path}); code != api.OK || !slices.Equal(order, append(slices.Clone(refs), big.Path, deep.Path)) {
		t.Errorf("Order: %d paths, %d", len(order), code)
	}
	if users, _ := s.Referrers(refs[0]); !slices.Equal(users, []string{refs[1], big.Path}) {
		t.Errorf("Referrers = %q", users)
	}
}

func TestAdd(t *testing.T) { // P17.5
	s := store.New()
	want := model{}
	var refs []string
	for i, n := range []api.Node{file("x"), dir(), dir(in("a", link("b"))), file("x"), exec("x")} {
		label := fmt.Sprintf("l%d", i%4)
		r := record("", n, refs...)
		r.Path, _ = spath.Make(refs, r.Hash, label)
		for range 2 { // the second one finds it there
			if path, code := s.Add(label, n, refs); path != r.Path || code != api.OK {
				t.Fatalf("Add = %q, %d, not %q", path, code, r.Path)
			}
			want[r.Path] = r
			holdAgainst(t, s, want)
		}
		refs = slices.Sorted(slices.Values(append(slices.Clone(refs), r.Path)))
	}
	if s.Len() != 5 {
		t.Errorf("Len = %d", s.Len())
	}
}

func TestAddRefuses(t *testing.T) { // P17.5: in this order
	a := record(at('1', "a"), file("x"))
	none := at('0', "none")
	many := make([]string, api.MaxRefs+1)
	rows := []struct {
		label string
		n     api.Node
		refs  []string
		code  api.Errno
	}{
		{"", link(""), many, api.ErrTarget},
		{"b", api.Node{Kind: 4}, nil, api.ErrKind},
		{"b", file(strings.Repeat("x", api.MaxArchive-111)), nil, api.ErrBig},
		{"", file("y"), many, api.ErrName},
		{".b", file("y"), []string{none}, api.ErrName},
		{strings.Repeat("l", api.MaxLabel+1), file("y"), nil, api.ErrName},
		{"b", file("y"), many, api.ErrMany},
		{"b", file("y"), []string{a.Path, none}, api.ErrRefs},
		{"b", file("y"), []string{"x"}, api.ErrRefs},
		{"b", file("y"), []string{none, a.Path}, api.ErrMissing},
		{"b", file("y"), []string{a.Path, at('2', "b")}, api.ErrMissing},
	}
	for i, r := range rows {
		s := filled(t, a)
		if path, code := s.Add(r.label, r.n, r.refs); path != "" || code != r.code {
			t.Errorf("%d: Add = %q, %d, not %d", i, path, code, r.code)
		}
		holdAgainst(t, s, modelOf(a), none)
	}
}

func TestAddClashes(t *testing.T) { // P17.5: another tree was inserted under the path that is made
	a := record(at('1', "a"), file("x"))
	hash, _ := sum(file("y"))
	path, _ := spath.Make([]string{a.Path}, hash, "b")
	for _, kept := range []api.Record{record(path, file("other"), a.Path), record(path, file("y")), record(path, file("y"), a.Path, path)} {
		slices.Sort(kept.Refs)
		s := filled(t, a, kept)
		if path, code := s.Add("b", file("y"), []string{a.Path}); path != "" || code != api.ErrClash {
			t.Errorf("Add = %q, %d", path, code)
		}
		holdAgainst(t, s, modelOf(a, kept))
	}
}

func TestCut(t *testing.T) { // P17.6
	a := record(at('1', "a"), file("x"))
	b := record(at('0', "b"), dir(), a.Path)
	c := record(at('2', "c"), file("z"), at('0', "b"), at('1', "a"), at('2', "c"))
	s := filled(t, a, b, c)
	want := modelOf(a, b, c)
	steps := []struct {
		path string
		code api.Errno
	}{
		{"", api.ErrMissing}, {at('3', "d"), api.ErrMissing}, {a.Path + "a", api.ErrMissing}, {a.Path[:len(a.Path)-1], api.ErrMissing},
		{a.Path, api.ErrInUse}, {b.Path, api.ErrInUse},
		{c.Path, api.OK}, // it refers to itself, and no other does
		{c.Path, api.ErrMissing}, {a.Path, api.ErrInUse}, {b.Path, api.OK}, {b.Path, api.ErrMissing}, {a.Path, api.OK}, {a.Path, api.ErrMissing},
	}
	for _, step := range steps {
		if code := s.Cut(step.path); code != step.code {
			t.Errorf("Cut(%q) = %d, not %d", step.path, code, step.code)
		}
		if step.code == api.OK {
			delete(want, step.path)
		}
		holdAgainst(t, s, want, a.Path, b.Path, c.Path)
	}
	other := record(c.Path, file("other")) // what is gone may come again as something else
	if code := s.Insert(other); code != api.OK {
		t.Errorf("Insert behind Cut = %d", code)
	}
	holdAgainst(t, s, modelOf(other), a.Path, b.Path)
}

func TestReferrersOfPathsThatBeginAlike(t *testing.T) { // P17.2: a label that goes on is another path
	a, b, c := record(at('1', "a"), file("")), record(at('1', "a+"), file("")), record(at('1', "aa"), file(""))
	users := []api.Record{record(at('0', "x"), dir(), a.Path), record(at('2', "x"), dir(), b.Path), record(at('3', "x"), dir(), c.Path), record(at('4', "x"), dir(), a.Path, b.Path, c.Path)}
	s := filled(t, append([]api.Record{a, b, c}, users...)...)
	holdAgainst(t, s, modelOf(append(users, a, b, c)...))
	s.Cut(users[3].Path)
	s.Cut(users[0].Path)
	holdAgainst(t, s, modelOf(a, b, c, users[1], users[2]))
	if code := s.Cut(a.Path); code != api.OK {
		t.Errorf("Cut = %d", code)
	}
}

func TestFork(t *testing.T) { // P17.6
	a, b, c := record(at('1', "a"), file("x")), record(at('0', "b"), dir(), at('1', "a")), record(at('2', "c"), link("l"), at('1', "a"))
	s := filled(t, a, b)
	f := s.Fork()
	g := f.Fork()
	s.Insert(c)
	f.Cut(b.Path)
	f.Cut(a.Path)
	other := record(a.Path, file("other"))
	f.Insert(other)
	holdAgainst(t, s, modelOf(a, b, c))
	holdAgainst(t, f, modelOf(other), b.Path, c.Path)
	holdAgainst(t, g, modelOf(a, b), c.Path)
	g.Cut(b.Path)
	s.Cut(c.Path)
	holdAgainst(t, s, modelOf(a, b), c.Path)
	holdAgainst(t, f, modelOf(other), b.Path)
	holdAgainst(t, g, modelOf(a), b.Path)
	none := store.New()
	none.Fork().Insert(a)
	holdAgainst(t, none, nil, a.Path)
}

func TestOrder(t *testing.T) { // P17.3: again and again the least that may come
	low, mid, high := at('0', "low"), at('5', "mid"), at('9', "high")
	s := filled(t, record(high, dir()), record(low, dir(), low, high), record(mid, dir()), record(at('1', "x"), dir(), mid), record(at('8', "y"), dir(), low))
	rows := []struct {
		roots, closure, order []string
	}{
		{nil, nil, nil},
		{[]string{}, nil, nil},
		{[]string{mid}, []string{mid}, []string{mid}},
		{[]string{mid, mid}, []string{mid}, []string{mid}},
		{[]string{low}, []string{low, high}, []string{high, low}},
		{[]string{high, low, high}, []string{low, high}, []string{high, low}},
		{[]string{at('8', "y"), at('1', "x")}, []string{low, at('1', "x"), mid, at('8', "y"), high}, []string{mid, at('1', "x"), high, low, at('8', "y")}},
	}
	for _, r := range rows {
		if got, code := s.Closure(r.roots); !slices.Equal(got, r.closure) || code != api.OK {
			t.Errorf("Closure(%q) = %q, %d", r.roots, got, code)
		}
		if got, code := s.Order(r.roots); !slices.Equal(got, r.order) || code != api.OK {
			t.Errorf("Order(%q) = %q, %d", r.roots, got, code)
		}
	}
	for _, roots := range [][]string{{""}, {low, "x"}, {at('2', "x"), mid}, {mid, low + "x", mid}} {
		if got, code := s.Closure(roots); len(got) != 0 || code != api.ErrMissing {
			t.Errorf("Closure(%q) = %q, %d", roots, got, code)
		}
		if got, code := s.Order(roots); len(got) != 0 || code != api.ErrMissing {
			t.Errorf("Order(%q) = %q, %d", roots, got, code)
		}
	}
}

func TestRootsAreNotChanged(t *testing.T) { // rule 4, spare room too
	a, b := record(at('1', "a"), file("x")), record(at('2', "b"), dir(), at('1', "a"))
	s := filled(t, a, b)
	room := []string{b.Path, "spare", "spare"}
	s.Closure(room[:1])
	s.Order(room[:1])
	if !slices.Equal(room, []string{b.Path, "spare", "spare"}) {
		t.Errorf("the roots and their room: %q", room)
	}
}

func TestSame(t *testing.T) { // P17.1
	sample := func() api.Record {
		return api.Record{Path: "p", Tree: dir(in("a", file("x")), in("b", dir(in("c", link("l"))))), Refs: []string{"r", "s"}, Hash: api.Digest{1, 31: 2}, Size: 7}
	}
	if !store.Same(sample(), sample()) || !store.Same(api.Record{}, api.Record{}) {
		t.Error("the same isn't the same")
	}
	if !store.Same(api.Record{Refs: []string{}, Tree: dir([]api.Entry{}...)}, api.Record{Tree: dir()}) {
		t.Error("an empty list isn't the same as none")
	}
	changes := []func(r *api.Record){
		func(r *api.Record) { r.Path = "q" },
		func(r *api.Record) { r.Path = "" },
		func(r *api.Record) { r.Hash[31]++ },
		func(r *api.Record) { r.Hash[0] = 0 },
		func(r *api.Record) { r.Size++ },
		func(r *api.Record) { r.Size = -7 },
		func(r *api.Record) { r.Refs = nil },
		func(r *api.Record) { r.Refs = r.Refs[:1] },
		func(r *api.Record) { r.Refs[0], r.Refs[1] = r.Refs[1], r.Refs[0] },
		func(r *api.Record) { r.Refs = append(r.Refs, "") },
		func(r *api.Record) { r.Tree = api.Node{} },
		func(r *api.Record) { r.Tree.Exec = true },
		func(r *api.Record) { r.Tree.Text = "x" },
		func(r *api.Record) { r.Tree.Kind = api.File },
		func(r *api.Record) { r.Tree.Kids = r.Tree.Kids[:1] },
		func(r *api.Record) { r.Tree.Kids[0].Name = "A" },
		func(r *api.Record) { r.Tree.Kids[1].Node.Kids[0].Node.Text = "L" },
	}
	for i, change := range changes {
		r := sample()
		change(&r)
		if store.Same(r, sample()) || store.Same(sample(), r) || !store.Same(r, r) {
			t.Errorf("change %d", i)
		}
	}
	if deep := (api.Record{Tree: nested(60000, file("x"))}); !store.Same(deep, deep) || store.Same(deep, api.Record{Tree: nested(60000, file("y"))}) {
		t.Error("deep trees")
	}
}

func TestNothingIsSharedWithWhatIsHandedIn(t *testing.T) { // rule 4
	a := record(at('1', "a"), file("x"))
	tree := func() api.Node {
		kids := []api.Entry{in("k", dir(in("l", file("1")))), in("m", link("2")), in("spare", file("spare"))}
		return api.Node{Kind: api.Dir, Kids: kids[:2]}
	}
	b := record(at('2', "b"), tree(), a.Path, at('2', "b"))
	s := filled(t, a)
	given := record(b.Path, tree(), a.Path, b.Path, "spare")
	given.Refs = given.Refs[:2]
	s.Insert(given)
	if spare := given.Tree.Kids[:3][2]; spare.Name != "spare" || spare.Node.Text != "spare" || given.Refs[:3][2] != "spare" || !same(given, b) {
		t.Error("Insert changed what it was given")
	}
	scribble(&given)
	holdAgainst(t, s, modelOf(a, b))

	n, refs := tree(), []string{a.Path, b.Path, "spare"}
	path, _ := s.Add("c", n, refs[:2])
	if spare := n.Kids[:3][2]; spare.Name != "spare" || !slices.Equal(refs, []string{a.Path, b.Path, "spare"}) {
		t.Error("Add changed what it was given")
	}
	scribbleTree(&n)
	scribbleList(refs)
	holdAgainst(t, s, modelOf(a, b, record(path, tree(), a.Path, b.Path)))
}

// step does something random to a store and its model, and answers whether the two answered the same.
func step(r *rand.Rand, s *store.Store, want model, names []string) error {
	path := names[r.Intn(len(names))]
	if r.Intn(3) == 0 {
		code := api.OK
		if _, there := want[path]; !there {
			code = api.ErrMissing
		} else if len(want.referrers(path)) > 0 {
			code = api.ErrInUse
		}
		if code == api.OK {
			delete(want, path)
		}
		if got := s.Cut(path); got != code {
			return fmt.Errorf("Cut(%q) = %d, not %d", path, got, code)
		}
		return nil
	}
	var refs []string
	for _, name := range names {
		if r.Intn(3) == 0 && (r.Intn(20) == 0 || name == path || want[name].Path != "") {
			refs = append(refs, name)
		}
	}
	rec := record(path, file(strings.Repeat("x", r.Intn(3))), refs...)
	code := api.OK
	kept, there := want[path]
	switch {
	case slices.ContainsFunc(refs, func(ref string) bool { _, has := want[ref]; return !has && ref != path }):
		code = api.ErrMissing
	case there && !same(kept, rec):
		code = api.ErrClash
	}
	if code == api.OK {
		want[path] = rec
	}
	if got := s.Insert(rec); got != code {
		return fmt.Errorf("Insert(%v) = %d, not %d", rec, got, code)
	}
	return nil
}

func TestRandomSteps(t *testing.T) { // P17.1 to P17.6, rule 3, closed at every moment
	names := []string{at('5', "a"), at('0', "b"), at('9', "c"), at('2', "a"), at('2', "aa"), at('2', "a-"), at('z', "d"), at('7', "e")}
	slices.Sort(names)
	for seed := range 60 {
		r := rand.New(rand.NewSource(int64(seed)))
		s, want := store.New(), model{}
		other, otherWant := store.New(), model{}
		for i := range 60 {
			if err := step(r, s, want, names); err != nil {
				t.Fatalf("seed %d, step %d: %v", seed, i, err)
			}
			if r.Intn(10) == 0 { // the fork goes on, and the old one is to stay as it is
				holdAgainst(t, other, otherWant, names...)
				other, otherWant = s, maps.Clone(want)
				s = s.Fork()
			}
			holdAgainst(t, s, want, names...)
			roots := slices.Clone(names[:r.Intn(len(names))])
			r.Shuffle(len(roots), func(i, j int) { roots[i], roots[j] = roots[j], roots[i] })
			holdRoots(t, s, want, roots...)
		}
		holdAgainst(t, other, otherWant, names...)
	}
}

func TestManyPaths(t *testing.T) { // P1: the time goes by the paths and their references, not by their product
	const count = 20000
	s := store.New()
	base := record(numbered(0), dir())
	s.Insert(base)
	for i := 1; i < count; i++ { // each refers to the first one and to the two ahead of it: there are more ways than could be gone
		r := record(numbered(i), dir(), base.Path)
		for j := max(i-2, 1); j < i; j++ {
			r.Refs = append(r.Refs, numbered(j))
		}
		if code := s.Insert(r); code != api.OK {
			t.Fatal(code)
		}
	}
	order, code := s.Order([]string{numbered(count - 1)})
	if code != api.OK || len(order) != count || !slices.IsSorted(order) || s.Bytes() != 96*count {
		t.Fatalf("Order: %d paths, %d", len(order), code)
	}
	for i := range 2000 {
		if order, _ := s.Order([]string{numbered(i % 10)}); len(order) != i%10+1 {
			t.Fatalf("Order of %d: %d paths", i%10, len(order))
		}
		if closure, _ := s.Closure([]string{numbered(i % 10)}); len(closure) != i%10+1 {
			t.Fatalf("Closure of %d: %d paths", i%10, len(closure))
		}
	}
	f := s.Fork()
	for i := count - 1; i >= 0; i-- {
		if code := s.Cut(order[i]); code != api.OK {
			t.Fatal(code)
		}
	}
	if s.Len() != 0 || s.Bytes() != 0 || f.Len() != count || f.Bytes() != 96*count {
		t.Errorf("Len = %d, Bytes = %d", s.Len(), s.Bytes())
	}
}

// asked is what every store can be asked: View has all of it by itself.
type asked interface {
	Has(path string) bool
	Get(path string) (api.Record, api.Errno)
	Paths() []string
	Len() int
	Bytes() int
	Refs(path string) ([]string, api.Errno)
	Referrers(path string) ([]string, api.Errno)
	Closure(roots []string) ([]string, api.Errno)
	Order(roots []string) ([]string, api.Errno)
}

func TestView(t *testing.T) { // a Store embeds its View, which tells what the store has now
	s := filled(t, record(at('1', "a"), file("x")))
	var v asked = &s.View
	s.Insert(record(at('2', "b"), file("y"), at('1', "a")))
	if order, code := v.Order([]string{at('2', "b")}); code != api.OK || len(order) != 2 || v.Len() != 2 || v.Bytes() != 240 || !v.Has(at('2', "b")) {
		t.Errorf("Order = %q, %d, Len = %d, Bytes = %d", order, code, v.Len(), v.Bytes())
	}
}
