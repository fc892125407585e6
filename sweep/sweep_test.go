package sweep_test

import (
	"math"
	"math/rand"
	"slices"
	"testing"

	"depot/api"
	"depot/store"
	"depot/sweep"
)

func TestLiveAndDead(t *testing.T) { // P19.1
	a := record(at('5'), file("x"))
	b := record(at('1'), dir(), at('1'), a.Path) // refers to itself too
	c := record(at('3'), dir(), b.Path)
	d := record(at('2'), file("y"), a.Path)
	e := record(at('4'), file("z"), at('4'))
	s := filled(t, a, b, c, d, e)
	rows := []struct {
		roots, live, dead []string
	}{
		{nil, nil, []string{b.Path, d.Path, c.Path, e.Path, a.Path}},
		{[]string{}, nil, []string{b.Path, d.Path, c.Path, e.Path, a.Path}},
		{[]string{a.Path}, []string{a.Path}, []string{b.Path, d.Path, c.Path, e.Path}},
		{[]string{c.Path}, []string{b.Path, c.Path, a.Path}, []string{d.Path, e.Path}},
		{[]string{d.Path, c.Path, d.Path}, []string{b.Path, d.Path, c.Path, a.Path}, []string{e.Path}},
		{[]string{e.Path, d.Path, c.Path}, []string{b.Path, d.Path, c.Path, e.Path, a.Path}, nil},
		{[]string{"none"}, nil, []string{b.Path, d.Path, c.Path, e.Path, a.Path}},
		{[]string{"", at('e'), e.Path, numbered(1), e.Path + "x"}, []string{e.Path}, []string{b.Path, d.Path, c.Path, a.Path}},
	}
	for _, r := range rows {
		given := slices.Clone(r.roots)
		if got := sweep.Live(s, r.roots); !slices.Equal(got, r.live) {
			t.Errorf("Live(%q) = %q", r.roots, got)
		}
		if got := sweep.Dead(s, r.roots); !slices.Equal(got, r.dead) {
			t.Errorf("Dead(%q) = %q", r.roots, got)
		}
		if !slices.Equal(r.roots, given) {
			t.Errorf("the roots were changed: %q", r.roots)
		}
	}
	holdStore(t, s, modelOf([]api.Record{a, b, c, d, e}))
	if l := sweep.Live(store.New(), []string{a.Path}); len(l) != 0 {
		t.Errorf("Live of nothing = %q", l)
	}
	if l := sweep.Dead(store.New(), []string{a.Path}); len(l) != 0 {
		t.Errorf("Dead of nothing = %q", l)
	}
}

func TestScore(t *testing.T) { // P19.2
	rows := []struct {
		size, uses int
		want       float64
	}{
		{10, 3, 2.5},
		{0, 0, 0},
		{1, 0, 1},
		{120, 0, 120},
		{120, 1, 60},
		{1, 2, 1.0 / 3},
		{-1, 0, 0},
		{-1, 5, 0},
		{math.MinInt, math.MinInt, 0},
		{7, -1, 7},
		{7, -2, 7},
		{7, math.MinInt, 7},
		{0, 9, 0},
		{1<<53 + 1, 0, 1 << 53},
		{1, 1<<53 - 1, 1.0 / (1 << 53)},
		{1, 1 << 53, 1.0 / (1 << 53)},   // 2^53 and 1 more, rounded
		{1, 1<<53 + 1, 1.0 / (1 << 53)}, // and 1 more, rounded twice
		{math.MaxInt, math.MaxInt, 1},
		{math.MaxInt, 0, 1 << 63},
		{1, math.MaxInt, 1.0 / (1 << 63)},
	}
	for _, r := range rows {
		got := sweep.Score(r.size, r.uses)
		if got != r.want || math.Signbit(got) {
			t.Errorf("Score(%d, %d) = %v, not %v", r.size, r.uses, got, r.want)
		}
	}
	random := rand.New(rand.NewSource(1))
	for range 20000 {
		size, uses := int(random.Uint64())>>random.Intn(64), int(random.Uint64())>>random.Intn(64)
		if got := sweep.Score(size, uses); got != score(size, uses) {
			t.Fatalf("Score(%d, %d) = %v, not %v", size, uses, got, score(size, uses))
		}
	}
}

func TestExample(t *testing.T) { // the document's example
	s := store.New()
	c, _ := s.Add("c", file("x"), nil)
	d, _ := s.Add("d", dir(), nil)
	paths, gained := sweep.Collect(s, []string{d}, nil, 1)
	if !slices.Equal(paths, []string{c}) || gained != 120 || !slices.Equal(s.Paths(), []string{d}) {
		t.Errorf("Collect = %q, %d", paths, gained)
	}
}

func TestCollectByScores(t *testing.T) { // P19.3: the greatest score first, of equal ones the least path
	records := []api.Record{
		record(at('3'), bulk(240)), record(at('1'), bulk(120)), record(at('2'), bulk(120)),
		record(at('5'), bulk(480)), record(at('4'), bulk(360)),
	}
	rows := []struct {
		uses []sweep.Use
		want []string
	}{
		{nil, []string{at('5'), at('4'), at('3'), at('1'), at('2')}},
		{[]sweep.Use{{Path: at('5'), Count: 3}}, []string{at('4'), at('3'), at('1'), at('2'), at('5')}},
		{[]sweep.Use{{Path: at('3'), Count: 1}, {Path: at('5'), Count: 3}, {Path: at('4'), Count: 2}}, []string{at('1'), at('2'), at('3'), at('4'), at('5')}},
		{[]sweep.Use{{Path: at('5'), Count: 3}, {Path: at('5'), Count: 0}}, []string{at('5'), at('4'), at('3'), at('1'), at('2')}},   // the last one counts
		{[]sweep.Use{{Path: at('5'), Count: 0}, {Path: at('5'), Count: 100}}, []string{at('4'), at('3'), at('1'), at('2'), at('5')}}, // they aren't added either
		{[]sweep.Use{{Path: at('5'), Count: 2}, {Path: at('5'), Count: 2}}, []string{at('4'), at('3'), at('5'), at('1'), at('2')}},
		{[]sweep.Use{{Path: at('1'), Count: -9}, {Path: at('2'), Count: math.MinInt}}, []string{at('5'), at('4'), at('3'), at('1'), at('2')}},
		{[]sweep.Use{{Path: at('1'), Count: 1 << 53}, {Path: at('2'), Count: 1<<53 - 1}}, []string{at('5'), at('4'), at('3'), at('1'), at('2')}}, // rounded they are equal
		{[]sweep.Use{{Path: at('1'), Count: math.MaxInt}, {Path: "none", Count: 4}}, []string{at('5'), at('4'), at('3'), at('2'), at('1')}},
	}
	for i, r := range rows {
		for _, want := range []int{1320, math.MaxInt} {
			got, gained := sweep.Collect(filled(t, records...), nil, r.uses, want)
			if !slices.Equal(got, r.want) || gained != 1320 {
				t.Errorf("%d: Collect = %q, %d, not %q", i, got, gained, r.want)
			}
		}
		holdSweep(t, records, nil, r.uses, math.MaxInt)
	}
}

func TestCollectWants(t *testing.T) { // P19.3: no more goes than is wanted, and nothing where that is 0 or below
	records := []api.Record{record(at('3'), bulk(120)), record(at('1'), bulk(160)), record(at('2'), bulk(200))}
	rows := []struct{ want, paths, gained int }{
		{math.MinInt, 0, 0}, {-1, 0, 0}, {0, 0, 0},
		{1, 1, 200}, {199, 1, 200}, {200, 1, 200},
		{201, 2, 360}, {360, 2, 360},
		{361, 3, 480}, {480, 3, 480}, {481, 3, 480}, {math.MaxInt, 3, 480},
	}
	order := []string{at('2'), at('1'), at('3')}
	for _, r := range rows {
		got, gained := sweep.Collect(filled(t, records...), nil, nil, r.want)
		if !slices.Equal(got, order[:r.paths]) || gained != r.gained {
			t.Errorf("Collect of %d = %q, %d", r.want, got, gained)
		}
		holdSweep(t, records, nil, nil, r.want)
	}
}

func TestCollectOfReferences(t *testing.T) { // P19.3: what is referred to goes behind all that refer to it
	low := record(at('0'), bulk(1000))
	mid := record(at('1'), bulk(120), at('0'), at('1')) // refers to itself too
	high := record(at('2'), bulk(112), at('1'))
	other := record(at('3'), bulk(120), at('0'))
	alone := record(at('4'), bulk(128), at('4'))
	records := []api.Record{low, mid, high, other, alone}
	rows := []struct {
		roots, want []string
	}{
		{nil, []string{alone.Path, other.Path, high.Path, mid.Path, low.Path}},
		{[]string{mid.Path}, []string{alone.Path, other.Path, high.Path}},
		{[]string{low.Path}, []string{alone.Path, other.Path, high.Path, mid.Path}},
		{[]string{high.Path}, []string{alone.Path, other.Path}},
		{[]string{alone.Path}, []string{other.Path, high.Path, mid.Path, low.Path}},
		{[]string{other.Path, "none"}, []string{alone.Path, high.Path, mid.Path}},
		{[]string{other.Path, high.Path, alone.Path}, nil},
	}
	for i, r := range rows {
		got, _ := sweep.Collect(filled(t, records...), r.roots, nil, math.MaxInt)
		if !slices.Equal(got, r.want) {
			t.Errorf("%d: Collect = %q, not %q", i, got, r.want)
		}
		for want := range 1500 {
			if want%40 < 3 {
				holdSweep(t, records, r.roots, nil, want)
			}
		}
	}
}

func TestCollectOfNothing(t *testing.T) { // P19.3
	holdSweep(t, nil, nil, nil, 1)
	holdSweep(t, nil, []string{at('1'), ""}, []sweep.Use{{Path: at('1'), Count: 4}}, math.MaxInt)
}

func TestSweepOfRandomStores(t *testing.T) { // P19.1, P19.3
	random := rand.New(rand.NewSource(2))
	for range 1500 {
		records := randomRecords(random, 14)
		want := random.Intn(2600) - 100
		if random.Intn(4) == 0 {
			want = 120 * random.Intn(20)
		}
		holdSweep(t, records, randomRoots(random, records), randomUses(random, records), want)
	}
}

func TestCollectAgainAndAgain(t *testing.T) { // P19.3: bit by bit a store is swept in the order in which it is swept at once
	random := rand.New(rand.NewSource(3))
	for range 200 {
		records := randomRecords(random, 14)
		roots, uses := randomRoots(random, records), randomUses(random, records)
		all, total := sweep.Collect(filled(t, records...), roots, uses, math.MaxInt)
		s := filled(t, records...)
		var bits []string
		sum := 0
		for {
			paths, gained := sweep.Collect(s, roots, uses, 1)
			if len(paths) == 0 {
				break
			}
			bits, sum = append(bits, paths...), sum+gained
		}
		if !slices.Equal(bits, all) || sum != total || len(sweep.Dead(s, roots)) != 0 {
			t.Fatalf("bit by bit %q, %d, at once %q, %d", bits, sum, all, total)
		}
	}
}

func TestManyPaths(t *testing.T) { // P1: thousands of paths, of which one holds them all, and a long chain
	const count = 4000
	s := store.New()
	low := record(numbered(0), dir())
	s.Insert(low)
	for i := 1; i < count; i++ {
		s.Insert(record(numbered(i), dir(), low.Path))
	}
	for i := count; i < 2*count; i++ {
		s.Insert(record(numbered(i), dir(), numbered(i-1)))
	}
	root := numbered(2*count - 1)
	if dead := sweep.Dead(s, []string{root}); len(dead) != count-2 {
		t.Fatalf("%d dead", len(dead))
	}
	paths, gained := sweep.Collect(s, nil, nil, math.MaxInt)
	if len(paths) != 2*count || gained != 96*2*count || s.Len() != 0 || paths[len(paths)-1] != low.Path || paths[0] != numbered(1) {
		t.Errorf("%d paths went, %d bytes", len(paths), gained)
	}
}
