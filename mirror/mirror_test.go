package mirror_test

import (
	"encoding/binary"
	"math"
	"math/big"
	"math/rand"
	"slices"
	"strings"
	"testing"

	"depot/api"
	"depot/info"
	"depot/mirror"
	"depot/pack"
	"depot/seal"
	"depot/store"
)

func TestCost(t *testing.T) { // P24.1
	inf, nan, minus, least := math.Inf(1), math.NaN(), math.Copysign(0, -1), 5e-324
	rows := []struct {
		lag, rate float64
		size      int
		cost      float64
		code      api.Errno
	}{
		{1, 2, 3, 2.5, api.OK},
		{0, 1, 0, 0, api.OK},
		{0, 1, 1, 1, api.OK},
		{minus, 1, 0, 0, api.OK},
		{minus, 4, 1, 0.25, api.OK},
		{7, 2, 0, 7, api.OK},
		{7, 2, -1, 7, api.OK},
		{7, 2, -1000, 7, api.OK},
		{7, 2, math.MinInt, 7, api.OK},
		{0, 1, math.MaxInt, 9223372036854775808, api.OK},
		{0, 1, 9007199254740993, 9007199254740992, api.OK},
		{0.25, 1e300, 1, 0.25, api.OK},
		{0, least, 1, inf, api.OK},
		{0, least, 0, 0, api.OK},
		{0, least, -5, 0, api.OK},
		{math.MaxFloat64, least, 1, inf, api.OK},
		{math.MaxFloat64, 1, 1, math.MaxFloat64, api.OK},
		{math.MaxFloat64, 0x1p-960, math.MaxInt, inf, api.OK},
		{0, math.MaxFloat64, 1, 1 / math.MaxFloat64, api.OK},
		{least, math.MaxFloat64, 0, least, api.OK},
		{nan, 1, 1, 0, api.ErrRate},
		{inf, 1, 1, 0, api.ErrRate},
		{-inf, 1, 1, 0, api.ErrRate},
		{-1, 1, 1, 0, api.ErrRate},
		{-least, 1, 1, 0, api.ErrRate},
		{1, nan, 1, 0, api.ErrRate},
		{1, inf, 1, 0, api.ErrRate},
		{1, -inf, 1, 0, api.ErrRate},
		{1, 0, 1, 0, api.ErrRate},
		{1, minus, 1, 0, api.ErrRate},
		{1, -least, 1, 0, api.ErrRate},
		{1, -2, 1, 0, api.ErrRate},
		{1, 0, 0, 0, api.ErrRate},
		{nan, nan, -1, 0, api.ErrRate},
	}
	for _, r := range rows {
		cost, code := mirror.Cost(mirror.Mirror{Name: "x", Lag: r.lag, Rate: r.rate}, r.size)
		if cost != r.cost || code != r.code || math.Signbit(cost) {
			t.Errorf("Cost of %v, %v, %d = %v, %d, not %v, %d", r.lag, r.rate, r.size, cost, code, r.cost, r.code)
		}
	}
}

func TestCostIsRoundedStepByStep(t *testing.T) { // P24.1
	r := rand.New(rand.NewSource(241))
	unlike := 0
	for range 5000 {
		lag, rate, size := r.Float64(), r.Float64()*100+0.001, r.Intn(1<<20)
		exact := new(big.Rat).Quo(new(big.Rat).SetInt64(int64(size)), new(big.Rat).SetFloat64(rate))
		way, _ := exact.Float64()
		want, _ := new(big.Rat).Add(new(big.Rat).SetFloat64(lag), new(big.Rat).SetFloat64(way)).Float64()
		if cost, code := mirror.Cost(mirror.Mirror{Lag: lag, Rate: rate}, size); cost != want || code != api.OK {
			t.Fatalf("Cost of %v, %v, %d = %v, %d, not %v", lag, rate, size, cost, code, want)
		}
		if once, _ := exact.Add(exact, new(big.Rat).SetFloat64(lag)).Float64(); once != want {
			unlike++
		}
	}
	if unlike == 0 {
		t.Error("no row tells whether the quotient is rounded")
	}
}

func TestCheck(t *testing.T) { // P24.2
	ring := ringOf("me", "you")
	for _, n := range []api.Node{file(""), file("hello"), {Kind: api.Link, Text: "x"}, dir(), dir(in("a", file(strings.Repeat("hello", 1000))), in("b", dir()))} {
		s := store.New()
		low, _ := s.Add("low", file("low"), nil)
		path, _ := s.Add("x", n, []string{low})
		rec, _ := s.Get(path)
		short, _ := pack.Pack(archiveOf(n))
		for _, p := range []string{short, packed(archiveOf(n))} { // each packing of the archive is right
			for k := -1; k <= 2; k++ {
				f := mirror.File{Info: printed(told(rec, []string{"me", "other", "you"}[:max(0, 2*k-1)]...)), Pack: p}
				got, code := mirror.Check(f, path, ring, k)
				if code != api.OK || !same(got, rec) {
					t.Errorf("Check = %v, %d, not %v", got, code, rec)
				}
				if code := s.Insert(got); code != api.OK {
					t.Errorf("Insert = %d", code)
				}
				clear(got.Refs[:cap(got.Refs)])
				if again, _ := mirror.Check(f, path, ring, k); !same(again, rec) {
					t.Error("answers share memory")
				}
			}
		}
	}
}

func TestCheckTakesWhatIsTold(t *testing.T) { // P24.2: nothing is asked of the path's hash; a From is no matter; a path may refer to itself
	rec := recordOf('b', "hello", "ab")
	i := told(rec)
	i.From = at('f')
	got, code := mirror.Check(mirror.File{Info: printed(i), Pack: packed(archiveOf(rec.Tree))}, at('b'), seal.NewRing(), 0)
	if code != api.OK || !same(got, rec) {
		t.Errorf("Check = %v, %d", got, code)
	}
	largest := recordOf('b', strings.Repeat("x", api.MaxArchive-112), "")
	if got, code := mirror.Check(right(largest), at('b'), seal.NewRing(), 0); code != api.OK || !same(got, largest) || got.Size != api.MaxArchive {
		t.Errorf("the largest: %d bytes, %d", got.Size, code)
	}
}

// noArchive: the info and the file of a text that is no archive, though all that is told of it is right.
func noArchive(text string) mirror.File {
	rec := recordOf('a', "x", "")
	i := told(rec)
	i.Hash, i.Size = digest(text), len(text)
	return mirror.File{Info: printed(i), Pack: packed(text)}
}

func TestCheckOfWrongFiles(t *testing.T) { // P24.2: each error
	rec := recordOf('a', "hello", "b")
	f := right(rec, "me")
	changed := func(change func(i *info.Info)) string {
		i := told(rec, "me")
		change(&i)
		return printed(i)
	}
	archive := archiveOf(rec.Tree)
	length := func(n uint64) string { return string(binary.LittleEndian.AppendUint64(nil, n)) }
	rows := []struct {
		f    mirror.File
		path string
		k    int
		code api.Errno
	}{
		{f, at('a'), 1, api.OK},
		{mirror.File{}, at('a'), 0, api.ErrLine},
		{mirror.File{Info: f.Info[:len(f.Info)-1], Pack: f.Pack}, at('a'), 0, api.ErrLine},
		{mirror.File{Info: f.Info + "\n", Pack: f.Pack}, at('a'), 0, api.ErrLine},
		{mirror.File{Info: strings.Replace(f.Info, "/depot/", "/depo/", 1), Pack: f.Pack}, at('a'), 0, api.ErrPath},
		{mirror.File{Info: strings.Replace(f.Info, "sha256:", "sha256:0", 1), Pack: f.Pack}, at('a'), 0, api.ErrHash},
		{mirror.File{Info: strings.Replace(f.Info, "Size: ", "Size: 9999999", 1), Pack: f.Pack}, at('a'), 0, api.ErrSize},
		{mirror.File{Info: strings.Replace(f.Info, "Refs: ", "Refs:  ", 1), Pack: f.Pack}, at('a'), 0, api.ErrRefs},
		{mirror.File{Info: strings.Replace(f.Info, "Sign: m", "Sign: M", 1), Pack: f.Pack}, at('a'), 0, api.ErrSign},
		{f, at('b'), 1, api.ErrPath},
		{f, "", 1, api.ErrPath},
		{f, at('a') + "a", 1, api.ErrPath},
		{f, at('a'), 2, api.ErrKey},
		{f, at('a'), math.MaxInt, api.ErrKey},
		{f, at('a'), math.MinInt, api.OK},
		{right(rec), at('a'), 1, api.ErrKey},
		{right(rec), at('a'), 0, api.OK},
		{right(rec, "other"), at('a'), 1, api.ErrKey},
		{mirror.File{Info: changed(func(i *info.Info) { i.Refs = nil }), Pack: f.Pack}, at('a'), 1, api.ErrKey}, // signed for other references
		{mirror.File{Info: changed(func(i *info.Info) { i.Refs = nil }), Pack: f.Pack}, at('a'), 0, api.OK},
		{mirror.File{Info: f.Info}, at('a'), 1, api.ErrShort},
		{mirror.File{Info: f.Info, Pack: f.Pack[:len(f.Pack)-1]}, at('a'), 1, api.ErrShort},
		{mirror.File{Info: f.Info, Pack: f.Pack + "x"}, at('a'), 1, api.ErrTrail},
		{mirror.File{Info: f.Info, Pack: length(api.MaxArchive + 1)}, at('a'), 1, api.ErrBig},
		{mirror.File{Info: f.Info, Pack: length(1) + "\x01ab"}, at('a'), 1, api.ErrExtra},
		{mirror.File{Info: f.Info, Pack: length(4) + "\x80\x00\x00"}, at('a'), 1, api.ErrFar},
		{mirror.File{Info: changed(func(i *info.Info) { i.Size++ }), Pack: f.Pack}, at('a'), 0, api.ErrSize},
		{mirror.File{Info: changed(func(i *info.Info) { i.Size-- }), Pack: f.Pack}, at('a'), 0, api.ErrSize},
		{mirror.File{Info: changed(func(i *info.Info) { i.Size = 0 }), Pack: f.Pack}, at('a'), 0, api.ErrSize},
		{mirror.File{Info: f.Info, Pack: packed(archive + "x")}, at('a'), 1, api.ErrSize},
		{mirror.File{Info: f.Info, Pack: packed("")}, at('a'), 1, api.ErrSize},
		{mirror.File{Info: changed(func(i *info.Info) { i.Hash[31] ^= 1 }), Pack: f.Pack}, at('a'), 0, api.ErrHash},
		{mirror.File{Info: changed(func(i *info.Info) { i.Hash = api.Digest{} }), Pack: f.Pack}, at('a'), 0, api.ErrHash},
		{mirror.File{Info: f.Info, Pack: packed(archiveOf(file("hallo")))}, at('a'), 1, api.ErrHash},
		{noArchive(""), at('a'), 0, api.ErrShort},
		{noArchive(archive[:len(archive)-1]), at('a'), 0, api.ErrShort},
		{noArchive(archive + "x"), at('a'), 0, api.ErrTrail},
		{noArchive("depot-archive-1"), at('a'), 0, api.ErrLong},
		{noArchive(strings.Replace(archive, "type", "tipe", 1)), at('a'), 0, api.ErrToken},
		{noArchive(strings.Replace(archive, "hello\x00", "hello\x01", 1)), at('a'), 0, api.ErrPad},
	}
	ring := ringOf("me", "you")
	for i, r := range rows {
		rec, code := mirror.Check(r.f, r.path, ring, r.k)
		if code != r.code || code != api.OK && !same(rec, api.Record{}) {
			t.Errorf("row %d: Check = %v, %d, not %d", i, rec, code, r.code)
		}
	}
}

func TestCheckInOrder(t *testing.T) { // P24.2: of several errors the first
	rec := recordOf('a', "hello", "")
	wrong := told(rec)
	wrong.Size, wrong.Hash = 5, api.Digest{}
	f := mirror.File{Info: printed(wrong) + "x", Pack: "x"}
	ring := ringOf("me")
	steps := []struct {
		mend func()
		code api.Errno
	}{
		{func() {}, api.ErrLine},
		{func() { f.Info = printed(wrong) }, api.ErrPath},
		{func() { wrong.Path = at('b'); f.Info = printed(wrong) }, api.ErrKey},
		{func() { wrong, _ = seal.SignInfo(wrong, "me", "me"); f.Info = printed(wrong) }, api.ErrShort},
		{func() { f.Pack = packed("no archive") }, api.ErrSize},
		{func() { f.Pack = packed("12345") }, api.ErrHash},
		{func() {
			wrong.Hash, wrong.Signs = digest("12345"), nil
			wrong, _ = seal.SignInfo(wrong, "me", "me")
			f.Info = printed(wrong)
		}, api.ErrShort}, // the archive's
	}
	for i, s := range steps {
		s.mend()
		if got, code := mirror.Check(f, at('b'), ring, 1); code != s.code || !same(got, api.Record{}) {
			t.Errorf("step %d: %v, %d, not %d", i, got, code, s.code)
		}
	}
}

func TestServe(t *testing.T) { // P24.4
	s := filled(t, recordOf('c', "one", ""), recordOf('a', strings.Repeat("two", 100), "c"), recordOf('b', "", "abc"))
	m := mirror.Mirror{Name: "m", Lag: 3, Rate: 4, Files: []mirror.File{{Info: "old", Pack: "old"}, {}, {}, {}}}
	kept := slices.Clone(m.Files)
	for _, signer := range []string{"", "me", strings.Repeat("a", 32)} {
		served, code := mirror.Serve(s, m, signer, "key")
		if code != api.OK || served.Name != "m" || served.Lag != 3 || served.Rate != 4 || len(served.Files) != 3 {
			t.Fatalf("Serve = %v, %d", served, code)
		}
		for i, path := range sorted("abc") {
			rec, _ := s.Get(path)
			want := told(rec)
			if signer != "" {
				text, _ := info.Fingerprint(want)
				sign, _ := seal.Sign(signer, "key", text)
				want.Signs = []string{sign}
			}
			short, _ := pack.Pack(archiveOf(rec.Tree))
			if f := served.Files[i]; f.Info != printed(want) || f.Pack != short {
				t.Errorf("file %d is %q", i, f)
			}
		}
		clear(served.Files[:cap(served.Files)])
		if !slices.Equal(m.Files, kept) {
			t.Fatal("an argument was changed")
		}
	}
	if !sameStores(s, filled(t, recordOf('c', "one", ""), recordOf('a', strings.Repeat("two", 100), "c"), recordOf('b', "", "abc"))) {
		t.Error("the store was changed")
	}
}

func TestServeOfWrongSigners(t *testing.T) { // P24.4
	s := filled(t, recordOf('a', "x", ""))
	for _, signer := range []string{"A", "a b", "me:", strings.Repeat("a", 33), "\x00", "é"} {
		for _, from := range []*store.Store{s, store.New()} {
			if m, code := mirror.Serve(from, with("m", 1), signer, "key"); code != api.ErrSign || !sameMirrors([]mirror.Mirror{m}, []mirror.Mirror{{}}) {
				t.Errorf("Serve by %q = %v, %d", signer, m, code)
			}
		}
	}
}

func TestServeTakesAnyMirrorAndKey(t *testing.T) { // P24.4: what the mirror says of itself stays as it is
	s := filled(t, recordOf('a', "x", ""))
	for _, m := range []mirror.Mirror{{}, {Name: "\x00\n", Lag: math.NaN(), Rate: math.Inf(-1)}, {Name: strings.Repeat("n", 5000), Lag: -1}} {
		for _, key := range []string{"", "k", strings.Repeat("k", 1000)} {
			served, code := mirror.Serve(s, m, "me", key)
			bare := served
			bare.Files = m.Files
			if code != api.OK || !sameMirrors([]mirror.Mirror{bare}, []mirror.Mirror{m}) {
				t.Errorf("Serve = %v, %d", served, code)
			}
			ring := seal.NewRing()
			ring.Add("me", key)
			if _, code := mirror.Check(served.Files[0], at('a'), ring, 1); code != api.OK {
				t.Errorf("Check = %d", code)
			}
			if served, code := mirror.Serve(store.New(), m, "me", key); code != api.OK || len(served.Files) != 0 {
				t.Errorf("Serve of nothing = %v, %d", served, code)
			}
		}
	}
}

func TestServeOfTheLargest(t *testing.T) { // P24.4: a whole archive's bytes, and as many references as there may be
	s := store.New()
	n := dir(in("a", file("")))
	size := len(archiveOf(n))
	r := rand.New(rand.NewSource(244))
	b := make([]byte, api.MaxArchive-size)
	r.Read(b)
	n.Kids[0].Node.Text = string(b)
	var refs []string
	for i := range api.MaxRefs {
		path, _ := s.Add("low", file(strings.Repeat("x", i)), nil)
		refs = append(refs, path)
	}
	slices.Sort(refs)
	path, code := s.Add(strings.Repeat("l", api.MaxLabel), n, refs)
	if code != api.OK {
		t.Fatal(code)
	}
	m, code := mirror.Serve(s, with("m", 0), "me", "me")
	if code != api.OK || len(m.Files) != api.MaxRefs+1 {
		t.Fatalf("%d files, %d", len(m.Files), code)
	}
	away := store.New()
	got, _, code := mirror.Fetch(away, []mirror.Mirror{m}, ringOf("me"), 1, []string{path})
	if code != api.OK || len(got) != api.MaxRefs+1 || !sameStores(away, s) {
		t.Errorf("%d fetched, %d", len(got), code)
	}
	if rec, _ := away.Get(path); rec.Size != api.MaxArchive {
		t.Errorf("Size = %d", rec.Size)
	}
}
