package mirror_test

import (
	"math"
	"math/rand"
	"slices"
	"testing"

	"depot/api"
	"depot/gauge"
	"depot/mirror"
	"depot/seal"
	"depot/store"
)

// holdRate: the meter's rate of the name.
func holdRate(t *testing.T, m *mirror.Meter, name string, want float64, wantCode api.Errno) {
	t.Helper()
	if rate, code := m.Rate(name); rate != want || code != wantCode {
		t.Errorf("Rate(%q) = %v, %d, not %v, %d", name, rate, code, want, wantCode)
	}
}

func TestMeter(t *testing.T) { // P24.5: the mean of gauge: the first sample, then a quarter of the way to each
	m := mirror.NewMeter()
	holdRate(t, m, "a", 0, api.ErrMissing)
	holdRate(t, m, "", 0, api.ErrMissing)
	steps := []struct {
		name    string
		bytes   int
		seconds float64
		rate    float64
	}{
		{"a", 100, 2, 50},
		{"a", 100, 1, 62.5},
		{"b", 1, 4, 0.25},
		{"a", 0, 1, 46.875},
		{"", 7, 0.5, 14},
		{"b", 0, 9, 0.1875},
		{"c", 0, 3, 0},
		{"c", 4, 1, 1},
		{"\x00", 1, math.MaxFloat64, 1 / math.MaxFloat64},
		{"d", math.MaxInt, 1, 9223372036854775808},
		{"e", 1, 0x1p-1022, 0x1p1022},
		{"f", 0, 5e-324, 0},
	}
	for _, s := range steps {
		if code := m.Note(s.name, s.bytes, s.seconds); code != api.OK {
			t.Errorf("Note(%q, %d, %v) = %d", s.name, s.bytes, s.seconds, code)
		}
		holdRate(t, m, s.name, s.rate, api.OK)
	}
	holdRate(t, m, "a", 46.875, api.OK)
	holdRate(t, m, "b", 0.1875, api.OK)
	holdRate(t, m, "A", 0, api.ErrMissing)
	holdRate(t, mirror.NewMeter(), "a", 0, api.ErrMissing)
}

func TestNoteOfWrongSamples(t *testing.T) { // P24.5: ErrRate, and nothing has changed
	wrong := []struct {
		bytes   int
		seconds float64
	}{
		{-1, 1}, {math.MinInt, 1}, {-1, math.NaN()},
		{1, math.NaN()}, {0, math.NaN()},
		{1, math.Inf(1)}, {1, math.Inf(-1)}, {0, math.Inf(1)},
		{1, 0}, {0, 0}, {1, math.Copysign(0, -1)}, {0, math.Copysign(0, -1)},
		{1, -1}, {0, -1}, {1, -5e-324}, {0, -5e-324}, {1, -math.MaxFloat64},
		{1, 5e-324}, {math.MaxInt, 0x1p-961}, // the quotient is infinite
	}
	m := mirror.NewMeter()
	m.Note("known", 8, 1)
	for _, w := range wrong {
		for _, name := range []string{"known", "new"} {
			if code := m.Note(name, w.bytes, w.seconds); code != api.ErrRate {
				t.Errorf("Note(%q, %d, %v) = %d", name, w.bytes, w.seconds, code)
			}
		}
	}
	holdRate(t, m, "known", 8, api.OK)
	holdRate(t, m, "new", 0, api.ErrMissing)
	if code := m.Note("new", 4, 1); code != api.OK {
		t.Errorf("Note = %d", code)
	}
	holdRate(t, m, "new", 4, api.OK)
	if code := m.Note("new", math.MaxInt, 0x1p-960); code != api.OK { // 2^1023
		t.Errorf("Note = %d", code)
	}
}

func TestMeterOfRandomSamples(t *testing.T) { // P24.5: as gauge.Mean
	r := rand.New(rand.NewSource(245))
	m := mirror.NewMeter()
	means := map[string]*gauge.Mean{"p": {}, "q": {}, "r": {}}
	for range 3000 {
		name := string(rune('p' + r.Intn(3)))
		bytes, seconds := r.Intn(1<<30), r.ExpFloat64()+1e-300
		if code := m.Note(name, bytes, seconds); code != api.OK {
			t.Fatalf("Note = %d", code)
		}
		means[name].Add(float64(bytes) / seconds)
		for name, mean := range means {
			if mean.Count() > 0 {
				holdRate(t, m, name, mean.Value(), api.OK)
			}
		}
	}
}

func TestApply(t *testing.T) { // P24.5
	m := mirror.NewMeter()
	m.Note("a", 50, 1)
	m.Note("b", 0, 1)
	m.Note("", 3, 1)
	nan := math.NaN()
	given := []mirror.Mirror{
		{Name: "b", Lag: 1, Rate: 2, Files: []mirror.File{{Info: "i", Pack: "p"}}},
		{Name: "c", Lag: 3, Rate: 4},
		{Name: "a", Lag: 5, Rate: 6, Files: []mirror.File{{}, {Info: "x"}}},
		{Name: "a", Lag: nan, Rate: nan},
		{Name: "", Lag: -1, Rate: math.Inf(1)},
		{Name: "d", Lag: nan, Rate: nan},
	}
	given[3].Files = given[2].Files
	kept := copied(given)
	want := copied(given)
	want[0].Rate, want[2].Rate, want[3].Rate, want[4].Rate = 0, 50, 50, 3
	got := m.Apply(given)
	if !sameMirrors(got, want) {
		t.Errorf("Apply = %v, not %v", got, want)
	}
	again := m.Apply(given)
	clear(got[2].Files[:cap(got[2].Files)])
	if !sameMirrors(got[3:], want[3:]) {
		t.Error("one answer's lists share memory")
	}
	for i := range got {
		clear(got[i].Files[:cap(got[i].Files)])
	}
	clear(got[:cap(got)])
	if !sameMirrors(given, kept) {
		t.Error("an answer shares memory with an argument")
	}
	if !sameMirrors(again, want) {
		t.Error("answers share memory")
	}
	if !sameMirrors(mirror.NewMeter().Apply(given), given) {
		t.Error("a meter that has learnt nothing changes rates")
	}
	if len(m.Apply(nil)) != 0 || len(m.Apply([]mirror.Mirror{})) != 0 {
		t.Error("mirrors of none")
	}
	holdRate(t, m, "c", 0, api.ErrMissing)
	holdRate(t, m, "d", 0, api.ErrMissing)
}

func TestApplyThenFetch(t *testing.T) { // P24.5, P24.3: what was learnt says who is quickest
	f := right(recordOf('a', "hello", ""))
	mirrors := []mirror.Mirror{{Name: "p", Rate: 10, Files: []mirror.File{f}}, {Name: "q", Rate: 20, Files: []mirror.File{f}}}
	m := mirror.NewMeter()
	for _, from := range []string{"q", "p", "q"} {
		if a := holdFetch(t, store.New(), m.Apply(mirrors), seal.NewRing(), 0, at('a')); !slices.Equal(a.got, []mirror.Got{{Path: at('a'), From: from}}) {
			t.Errorf("Fetch = %v, not from %s", a, from)
		}
		m.Note(from, 2, 1)
		if from == "p" {
			m.Note("p", 0, 1)
		}
	}
	idle := mirror.NewMeter() // a rate of 0 is no rate
	idle.Note("p", 0, 1)
	idle.Note("q", 0, 1)
	holdRefused(t, holdFetch(t, store.New(), idle.Apply(mirrors), seal.NewRing(), 0, at('a')), at('a'), api.ErrMissing)
}
