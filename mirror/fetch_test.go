package mirror_test

import (
	"fmt"
	"math"
	"math/rand"
	"slices"
	"strings"
	"testing"

	"depot/api"
	"depot/info"
	"depot/mirror"
	"depot/seal"
	"depot/store"
)

// holdGot: what came, as letters of the paths, each with the name of its mirror behind it.
func holdGot(t *testing.T, a answer, want ...string) {
	t.Helper()
	var list []string
	for _, g := range a.got {
		list = append(list, g.Path[len(g.Path)-1:]+g.From)
	}
	if a.code != api.OK || a.path != "" || !slices.Equal(list, want) {
		t.Errorf("Fetch = %v, not %q", a, want)
	}
}

// holdRefused: nothing came, for that reason.
func holdRefused(t *testing.T, a answer, path string, code api.Errno) {
	t.Helper()
	if a.code != code || a.path != path || len(a.got) != 0 {
		t.Errorf("Fetch = %v, not %q, %d", a, path, code)
	}
}

func TestFetch(t *testing.T) { // P24.3
	low, high, other := recordOf('b', "low", ""), recordOf('a', "high", "b"), recordOf('c', "other", "")
	m := []mirror.Mirror{with("m", 1, right(other), right(high), right(low))}
	s := store.New()
	holdGot(t, holdFetch(t, s, m, seal.NewRing(), 0, at('a')), "bm", "am")
	if !sameStores(s, filled(t, low, high)) {
		t.Errorf("the store has %v", asked(s))
	}
	holdGot(t, holdFetch(t, s, m, seal.NewRing(), 0, at('a'))) // all is there
	holdGot(t, holdFetch(t, s, m, seal.NewRing(), 0))
	holdGot(t, holdFetch(t, s, m, seal.NewRing(), 0, at('c'), at('a'), at('c')), "cm")
	if !sameStores(s, filled(t, low, high, other)) {
		t.Errorf("the store has %v", asked(s))
	}
	if code := s.Cut(at('b')); code != api.ErrInUse {
		t.Errorf("Cut = %d", code)
	}
}

func TestFetchOfWhatIsThere(t *testing.T) { // P24.3: what the store has isn't needed, whatever mirrors say of it
	low := recordOf('b', "mine", "")
	s := filled(t, low)
	m := []mirror.Mirror{with("m", 1, right(recordOf('b', "theirs", "z")), right(recordOf('a', "high", "b")))}
	holdGot(t, holdFetch(t, s, m, seal.NewRing(), 0, at('b')))
	holdGot(t, holdFetch(t, s, nil, seal.NewRing(), 0, at('b'), at('b')))
	holdGot(t, holdFetch(t, s, m, seal.NewRing(), 0, at('a'), at('b')), "am")
	if !sameStores(s, filled(t, low, recordOf('a', "high", "b"))) {
		t.Errorf("the store has %v", asked(s))
	}
}

func TestFetchOrder(t *testing.T) { // P24.3: again and again the least path whose references are there
	var files []mirror.File
	for _, word := range []string{"ag", "bad", "c", "dh", "fg", "g", "hc", "i"} { // each with its references behind it
		files = append(files, right(recordOf(word[0], word, word[1:])))
	}
	m := []mirror.Mirror{with("", 1, files...)}
	paths := sorted("abcdfghi")
	slices.Reverse(paths)
	holdGot(t, holdFetch(t, store.New(), m, seal.NewRing(), 0, paths...), strings.Split("cgafhdbi", "")...)
	holdGot(t, holdFetch(t, store.New(), m, seal.NewRing(), 0, at('b')), strings.Split("cgahdb", "")...)
	holdGot(t, holdFetch(t, filled(t, recordOf('h', "there", "")), m, seal.NewRing(), 0, at('b')), strings.Split("dgab", "")...)
}

func TestFetchOfItself(t *testing.T) { // P24.3: a path may refer to itself
	m := []mirror.Mirror{with("m", 1, right(recordOf('a', "x", "a")), right(recordOf('b', "y", "ab")))}
	s := store.New()
	holdGot(t, holdFetch(t, s, m, seal.NewRing(), 0, at('b')), "am", "bm")
	if refs, _ := s.Refs(at('b')); !slices.Equal(refs, sorted("ab")) {
		t.Errorf("Refs = %q", refs)
	}
}

func TestFetchCycles(t *testing.T) { // P24.3: ErrCycle, with the least path that is left; nothing has come
	two := []mirror.Mirror{with("m", 1, right(recordOf('c', "x", "d")), right(recordOf('d', "y", "c")), right(recordOf('a', "free", "")), right(recordOf('b', "z", "a")))}
	s := filled(t, recordOf('k', "kept", ""))
	holdRefused(t, holdFetch(t, s, two, seal.NewRing(), 0, at('d')), at('c'), api.ErrCycle)
	holdRefused(t, holdFetch(t, s, two, seal.NewRing(), 0, at('d'), at('b')), at('c'), api.ErrCycle) // a and b could come
	holdGot(t, holdFetch(t, s, two, seal.NewRing(), 0, at('b')), "am", "bm")
	if s.Len() != 3 {
		t.Errorf("Len = %d", s.Len())
	}
	// What waits for a cycle is left too, and may be the least.
	waits := append(two, with("n", 1, right(recordOf('0', "waits", "d"))))
	holdRefused(t, holdFetch(t, s, waits, seal.NewRing(), 0, at('0')), at('0'), api.ErrCycle)
	three := []mirror.Mirror{with("m", 1, right(recordOf('c', "x", "cd")), right(recordOf('d', "y", "g")), right(recordOf('g', "z", "cg")))}
	holdRefused(t, holdFetch(t, s, three, seal.NewRing(), 0, at('g')), at('c'), api.ErrCycle)
	// There is none where one of them is in the store.
	holdGot(t, holdFetch(t, filled(t, recordOf('d', "there", "")), two, seal.NewRing(), 0, at('c')), "cm")
}

func TestFetchOfMissing(t *testing.T) { // P24.3: the least needed path that isn't found; nothing has come
	m := []mirror.Mirror{with("m", 1, right(recordOf('b', "x", "cd")), right(recordOf('c', "y", "f")), right(recordOf('g', "z", "")))}
	rows := []struct {
		want []string
		path string
	}{
		{[]string{at('b')}, at('d')}, // f isn't found either
		{[]string{at('c')}, at('f')}, // it isn't wanted itself
		{[]string{at('g'), at('c')}, at('f')},
		{[]string{at('k'), at('b')}, at('d')},
		{[]string{at('a'), at('b')}, at('a')},
		{[]string{at('b'), at('a')}, at('a')},
		{[]string{""}, ""}, // what is no path is needed too
		{[]string{at('a'), "x", "", "y"}, ""},
		{[]string{"x", at('z'), "y"}, "x"},
		{[]string{"y", at('k'), "x"}, at('k')},
		{[]string{"y", "x"}, "x"},
		{[]string{"\xff", "\x00"}, "\x00"},
	}
	for _, r := range rows {
		s := filled(t, recordOf('z', "kept", ""))
		holdRefused(t, holdFetch(t, s, m, seal.NewRing(), 0, r.want...), r.path, api.ErrMissing)
		if s.Len() != 1 {
			t.Errorf("Len = %d", s.Len())
		}
	}
	holdRefused(t, holdFetch(t, store.New(), nil, seal.NewRing(), 0, at('a')), at('a'), api.ErrMissing)
	// It goes ahead of a cycle, though that has lesser paths.
	cycle := []mirror.Mirror{with("m", 1, right(recordOf('a', "x", "b")), right(recordOf('b', "y", "a")))}
	holdRefused(t, holdFetch(t, store.New(), cycle, seal.NewRing(), 0, at('a'), at('c')), at('c'), api.ErrMissing)
}

func TestFetchFromTheQuickest(t *testing.T) { // P24.3: the least Cost of those that are right; of equal ones the first
	inf := math.Inf(1)
	rec := recordOf('a', "hello", "") // 120 bytes
	f := right(rec)
	bad := mirror.File{Info: f.Info, Pack: f.Pack + "x"}
	of := func(name string, lag, rate float64, files ...mirror.File) mirror.Mirror {
		return mirror.Mirror{Name: name, Lag: lag, Rate: rate, Files: files}
	}
	rows := []struct {
		mirrors []mirror.Mirror
		from    string
	}{
		{[]mirror.Mirror{of("p", 2, 1, f), of("q", 1, 1, f), of("r", 3, 1, f)}, "q"},
		{[]mirror.Mirror{of("p", 0, 1, f), of("q", 0, 2, f), of("r", 0, 1.5, f)}, "q"},
		{[]mirror.Mirror{of("p", 0, 1, f), of("q", 119, 120, f)}, "p"}, // both 120
		{[]mirror.Mirror{of("q", 119, 120, f), of("p", 0, 1, f)}, "q"},
		{[]mirror.Mirror{of("q", 119.5, 120, f), of("p", 0, 1, f)}, "p"},
		{[]mirror.Mirror{of("p", 1, 1, f), of("q", math.Nextafter(1, 0), 1, f)}, "p"}, // the sums are equal when rounded
		{[]mirror.Mirror{of("p", 1, 1, f), of("q", 0.99, 1, f)}, "q"},
		{[]mirror.Mirror{of("p", 0, 1, f), of("q", math.Copysign(0, -1), 1, f)}, "p"},
		{[]mirror.Mirror{of("p", 5, 5e-324, f), of("q", 1, 5e-324, f)}, "p"}, // both infinite
		{[]mirror.Mirror{of("p", 5, 5e-324, f), of("q", math.MaxFloat64, 1, f)}, "q"},
		{[]mirror.Mirror{of("p", 5, 5e-324, f)}, "p"},
		{[]mirror.Mirror{of("p", 1, 1, bad), of("q", 2, 1, f), of("r", 3, 1, f)}, "q"},
		{[]mirror.Mirror{of("p", 3, 1, f), of("q", 1, 1, bad), of("r", 2, 1, bad)}, "p"},
		{[]mirror.Mirror{of("p", 1, 1), of("q", 2, 1, f)}, "q"},
		{[]mirror.Mirror{of("p", 1, 1, f), of("p", 1, 1, f)}, "p"},
		{[]mirror.Mirror{of("", 1, 1, f), of("p", 2, 1, f)}, ""},
		// Those that have no cost give nothing.
		{[]mirror.Mirror{of("p", math.NaN(), 1, f), of("q", 9, 1, f)}, "q"},
		{[]mirror.Mirror{of("p", inf, 1, f), of("q", 9, 1, f)}, "q"},
		{[]mirror.Mirror{of("p", -1, 1, f), of("q", 9, 1, f)}, "q"},
		{[]mirror.Mirror{of("p", 0, math.NaN(), f), of("q", 9, 1, f)}, "q"},
		{[]mirror.Mirror{of("p", 0, inf, f), of("q", 9, 1, f)}, "q"},
		{[]mirror.Mirror{of("p", 0, 0, f), of("q", 9, 1, f)}, "q"},
		{[]mirror.Mirror{of("p", 0, -5, f), of("q", 9, 1, f)}, "q"},
	}
	for _, r := range rows {
		s := store.New()
		holdGot(t, holdFetch(t, s, r.mirrors, seal.NewRing(), 0, at('a')), "a"+r.from)
		if !sameStores(s, filled(t, rec)) {
			t.Errorf("the store has %v", asked(s))
		}
	}
	holdRefused(t, holdFetch(t, store.New(), []mirror.Mirror{of("p", -1, 1, f), of("q", 1, 0, f), of("r", 1, 1, bad)}, seal.NewRing(), 0, at('a')), at('a'), api.ErrMissing)
}

func TestFetchByTheSizeThatIsTold(t *testing.T) { // P24.3: the Cost is for the Size of the mirror's own info
	small, large := right(recordOf('a', "", "")), right(recordOf('a', strings.Repeat("x", 1000), ""))
	m := []mirror.Mirror{with("p", 0, large), with("q", 500, small)} // 1112 against 612
	holdGot(t, holdFetch(t, store.New(), m, seal.NewRing(), 0, at('a')), "aq")
	m[1].Lag = 1000.5
	holdGot(t, holdFetch(t, store.New(), m, seal.NewRing(), 0, at('a')), "ap")
	m[1].Lag, m[1].Rate = 0, 0.1
	holdGot(t, holdFetch(t, store.New(), m, seal.NewRing(), 0, at('a')), "ap")
	// Each path from where it is quickest.
	each := []mirror.Mirror{
		{Name: "p", Lag: 0, Rate: 1, Files: []mirror.File{right(recordOf('a', "", "")), right(recordOf('b', strings.Repeat("x", 10000), "a"))}},
		{Name: "q", Lag: 200, Rate: 100, Files: []mirror.File{right(recordOf('a', "", "")), right(recordOf('b', strings.Repeat("x", 10000), "a"))}},
	}
	holdGot(t, holdFetch(t, store.New(), each, seal.NewRing(), 0, at('b')), "ap", "bq")
}

func TestFetchOfTheFirstFile(t *testing.T) { // P24.3: a mirror's file for a path is the first whose info is read and has the path
	rec, other := recordOf('a', "hello", ""), recordOf('a', "other", "")
	f := right(rec)
	bad := mirror.File{Info: f.Info, Pack: f.Pack + "x"}
	unread := mirror.File{Info: f.Info + "x", Pack: f.Pack}
	s := store.New()
	holdGot(t, holdFetch(t, s, []mirror.Mirror{with("m", 1, unread, mirror.File{}, right(recordOf('b', "b", "")), f, right(other), bad)}, seal.NewRing(), 0, at('a')), "am")
	if !sameStores(s, filled(t, rec)) {
		t.Errorf("the store has %v", asked(s))
	}
	// It isn't right, and the mirror's others don't count.
	m := []mirror.Mirror{with("m", 1, bad, f, f), with("n", 2, f)}
	holdGot(t, holdFetch(t, store.New(), m, seal.NewRing(), 0, at('a')), "an")
	holdRefused(t, holdFetch(t, store.New(), m[:1], seal.NewRing(), 0, at('a')), at('a'), api.ErrMissing)
	// Nor do they where the first isn't signed, or tells another size.
	m = []mirror.Mirror{with("m", 1, f, right(rec, "me")), with("n", 2, right(other, "me"))}
	holdGot(t, holdFetch(t, store.New(), m, ringOf("me"), 1, at('a')), "an")
	large := right(recordOf('a', strings.Repeat("x", 1000), ""))
	m = []mirror.Mirror{with("m", 1, large, f), with("n", 2, f, large)}
	holdGot(t, holdFetch(t, store.New(), m, seal.NewRing(), 0, at('a')), "an")
	// The same files among those of other paths.
	m = []mirror.Mirror{with("m", 1, bad, right(recordOf('b', "b", "")), f), with("n", 2, right(recordOf('b', "b", "")))}
	holdRefused(t, holdFetch(t, store.New(), m, seal.NewRing(), 0, at('a'), at('b')), at('a'), api.ErrMissing)
}

func TestFetchOfWhatIsSigned(t *testing.T) { // P24.3, P24.2: by k of the ring's signers
	rec := recordOf('a', "hello", "b")
	low := recordOf('b', "low", "")
	m := []mirror.Mirror{
		with("p", 1, right(rec), right(low)),
		with("q", 2, right(rec, "me"), right(low, "other")),
		with("r", 3, right(rec, "me", "you"), right(low, "you")),
		with("s", 4, right(rec, "other"), right(low, "you", "me")),
	}
	ring := ringOf("me", "you")
	holdGot(t, holdFetch(t, store.New(), m, ring, -1, at('a')), "bp", "ap")
	holdGot(t, holdFetch(t, store.New(), m, ring, 0, at('a')), "bp", "ap")
	holdGot(t, holdFetch(t, store.New(), m, ring, 1, at('a')), "br", "aq")
	holdGot(t, holdFetch(t, store.New(), m, ring, 2, at('a')), "bs", "ar")
	holdRefused(t, holdFetch(t, store.New(), m, ring, 3, at('a')), at('a'), api.ErrMissing)
	holdRefused(t, holdFetch(t, store.New(), m[:2], ring, 1, at('a')), at('b'), api.ErrMissing)
	holdRefused(t, holdFetch(t, store.New(), m, seal.NewRing(), 1, at('a')), at('a'), api.ErrMissing)
	holdGot(t, holdFetch(t, filled(t, low), m, ring, 1, at('a')), "aq") // what is there needs no signature
}

func TestFetchNeedsWhatTheRecordSays(t *testing.T) { // P24.3: the references of the one that gives the record, not of others
	quick, slow := with("q", 1, right(recordOf('a', "x", "b")), right(recordOf('b', "b", ""))), with("s", 2, right(recordOf('a', "x", "c")), right(recordOf('c', "c", "")))
	holdGot(t, holdFetch(t, store.New(), []mirror.Mirror{slow, quick}, seal.NewRing(), 0, at('a')), "bq", "aq")
	quick.Lag = 3
	holdGot(t, holdFetch(t, store.New(), []mirror.Mirror{slow, quick}, seal.NewRing(), 0, at('a')), "cs", "as")
	// The one that gives it refers to what nobody has: another one isn't asked instead.
	lost := with("l", 0, right(recordOf('a', "x", "z")))
	holdRefused(t, holdFetch(t, store.New(), []mirror.Mirror{slow, quick, lost}, seal.NewRing(), 0, at('a')), at('z'), api.ErrMissing)
	// An info that isn't right needs nothing.
	wrong := lost
	wrong.Files = []mirror.File{{Info: lost.Files[0].Info, Pack: ""}}
	holdGot(t, holdFetch(t, store.New(), []mirror.Mirror{slow, wrong}, seal.NewRing(), 0, at('a')), "cs", "as")
}

func TestFetchTakesMadePaths(t *testing.T) { // P24.3, P24.4: what a store serves comes as it is there
	s := store.New()
	low, _ := s.Add("low", dir(in("x", file("hello"))), nil)
	mid, _ := s.Add("mid", file(low), []string{low})
	high, _ := s.Add("high", dir(in("a", file(mid)), in("b", file(strings.Repeat("b", 5000)))), slices.Sorted(slices.Values([]string{low, mid})))
	m, _ := mirror.Serve(s, with("m", 1), "me", "me")
	away := store.New()
	a := holdFetch(t, away, []mirror.Mirror{m}, ringOf("me"), 1, high)
	want := []mirror.Got{{Path: low, From: "m"}, {Path: mid, From: "m"}, {Path: high, From: "m"}}
	if a.code != api.OK || !slices.Equal(a.got, want) || !sameStores(away, s) {
		t.Errorf("Fetch = %v", a)
	}
	again, _ := mirror.Serve(away, with("m", 1), "me", "me")
	if !sameMirrors([]mirror.Mirror{m}, []mirror.Mirror{again}) {
		t.Error("served again it is another mirror")
	}
}

func TestFetchKeepsNothingOfItsArguments(t *testing.T) { // rule 4
	rec := recordOf('a', "hello", "b")
	m := []mirror.Mirror{with("m", 1, right(rec), right(recordOf('b', "low", "")))}
	want := []string{at('a')}
	s := store.New()
	before := s.Fork()
	got, _, _ := mirror.Fetch(s, m, seal.NewRing(), 0, want)
	clear(m[0].Files)
	clear(m)
	clear(want)
	if kept, _ := s.Get(at('a')); !same(kept, rec) || len(got) != 2 || got[1] != (mirror.Got{Path: at('a'), From: "m"}) {
		t.Errorf("%v, %v", kept, got)
	}
	if before.Len() != 0 {
		t.Error("a fork has changed")
	}
}

func TestFetchOfRandom(t *testing.T) { // P24.3, P2
	r := rand.New(rand.NewSource(243))
	letters := "abcdfghi"
	seen := map[api.Errno]int{}
	for range 6000 {
		mirrors := randomMirrors(r, letters[:2+r.Intn(len(letters)-1)])
		s := filled(t, recordOf('0', "kept", ""))
		if r.Intn(2) == 0 {
			s.Insert(recordOf('a', "there", ""))
		}
		for range 2 {
			var want []string
			for range r.Intn(4) {
				want = append(want, at(letters[r.Intn(4)]))
			}
			a := holdFetch(t, s, mirrors, ringOf("me"), r.Intn(8)/6, want...)
			if len(a.got) > 0 || a.code != api.OK {
				seen[a.code]++
			}
		}
	}
	if seen[api.OK] < 500 || seen[api.ErrMissing] < 500 || seen[api.ErrCycle] < 50 {
		t.Errorf("seen: %v", seen)
	}
}

func TestFetchOfALongChain(t *testing.T) { // P24.3: each refers to the next, so the last path comes first
	const length = 5000
	path := func(i int) string { return fmt.Sprintf("/depot/store/%032d-n", i) }
	var files []mirror.File
	var want []mirror.Got
	for i := range length {
		rec := recordOf('a', "x", "")
		rec.Path = path(i)
		if i < length-1 {
			rec.Refs = []string{path(i + 1)}
		}
		files = append(files, right(rec))
		want = append(want, mirror.Got{Path: path(length - 1 - i), From: "m"})
	}
	s := store.New()
	got, at, code := mirror.Fetch(s, []mirror.Mirror{with("m", 1, files...)}, seal.NewRing(), 0, []string{path(0)})
	if code != api.OK || at != "" || !slices.Equal(got, want) || s.Len() != length {
		t.Errorf("%d came, %q, %d", len(got), at, code)
	}
	if closed, code := s.Closure([]string{path(0)}); code != api.OK || len(closed) != length {
		t.Errorf("%d are reached, %d", len(closed), code)
	}
}

func TestFetchOfWideRefs(t *testing.T) { // P24.3: as many references as there may be
	var refs []string
	var files []mirror.File
	for i := range api.MaxRefs {
		rec := recordOf('a', "x", "")
		rec.Path = fmt.Sprintf("/depot/store/%032d-n", i)
		refs, files = append(refs, rec.Path), append(files, right(rec))
	}
	top := recordOf('a', "top", "")
	top.Refs = refs
	files = append(files, mirror.File{Info: printed(info.Info{Path: top.Path, Hash: top.Hash, Size: top.Size, Refs: refs}), Pack: packed(archiveOf(top.Tree))})
	s := store.New()
	got, _, code := mirror.Fetch(s, []mirror.Mirror{with("m", 1, files...)}, seal.NewRing(), 0, []string{top.Path})
	if code != api.OK || len(got) != api.MaxRefs+1 || got[api.MaxRefs].Path != top.Path || got[0].Path != refs[0] {
		t.Errorf("%d came, %d", len(got), code)
	}
}
