package gauge_test

import (
	"math"
	"math/big"
	"math/rand"
	"testing"

	"depot/api"
	"depot/gauge"
)

var (
	inf       = math.Inf(1)
	nan       = math.NaN()
	minusZero = math.Copysign(0, -1)
	least     = math.SmallestNonzeroFloat64
	most      = math.MaxFloat64
)

// same tells also +0 from -0, and takes all that is no number for one.
func same(a, b float64) bool {
	return math.IsNaN(a) && math.IsNaN(b) || math.Float64bits(a) == math.Float64bits(b)
}

// scaled is m times 2^e, exactly.
func scaled(m int64, e int) *big.Rat {
	two := new(big.Int).Lsh(big.NewInt(1), uint(max(e, -e)))
	r := new(big.Rat).SetInt64(m)
	if e < 0 {
		return r.Quo(r, new(big.Rat).SetInt(two))
	}
	return r.Mul(r, new(big.Rat).SetInt(two))
}

// nearest is the float64 nearest to m times 2^e, by the library's fractions.
func nearest(m int64, e int) float64 {
	f, _ := scaled(m, e).Float64()
	if m < 0 {
		return -math.Abs(f)
	}
	return f
}

// someFloats are the edges and bit patterns of all kinds.
func someFloats(r *rand.Rand, n int) []float64 {
	out := []float64{
		0, minusZero, 1, -1, 0.5, 1.5, 0.75, -2.5, 3, 1 << 52, 1 << 53, 1<<53 + 2, 1 << 62, 1 << 63, -1 << 63, 1 << 64,
		math.Nextafter(1<<63, 0), math.Nextafter(-1<<63, -inf), math.Nextafter(-1<<63, 0),
		least, -least, 3 * least, 0x1p-1022, math.Nextafter(0x1p-1022, 0), most, -most, inf, -inf, nan, 0.1, 1e300, -1e-300,
	}
	for range n {
		out = append(out, math.Float64frombits(r.Uint64()), r.NormFloat64(), float64(r.Int63()>>r.Intn(63)), r.Float64()*math.Ldexp(1, -1022))
	}
	return out
}

func TestParts(t *testing.T) { // P4.1
	rows := []struct {
		f float64
		m int64
		e int
		c gauge.Class
	}{
		{0.75, 3, -2, gauge.Number},
		{0, 0, 0, gauge.Number}, {minusZero, 0, 0, gauge.Number},
		{1, 1, 0, gauge.Number}, {-1, -1, 0, gauge.Number}, {-12, -3, 2, gauge.Number},
		{least, 1, -1074, gauge.Number}, {-least, -1, -1074, gauge.Number},
		{0x1p-1022, 1, -1022, gauge.Number},
		{math.Nextafter(0x1p-1022, 0), 1<<52 - 1, -1074, gauge.Number},
		{most, 1<<53 - 1, 971, gauge.Number}, {-most, -(1<<53 - 1), 971, gauge.Number},
		{inf, 0, 0, gauge.Above}, {-inf, 0, 0, gauge.Below},
		{nan, 0, 0, gauge.NoNumber}, {-nan, 0, 0, gauge.NoNumber},
		{math.Float64frombits(0xfff0000000000001), 0, 0, gauge.NoNumber},
	}
	for _, r := range rows {
		if m, e, c := gauge.Parts(r.f); m != r.m || e != r.e || c != r.c {
			t.Errorf("Parts(%v) = %d, %d, %d", r.f, m, e, c)
		}
	}
	if gauge.Number != 0 || gauge.Above != 1 || gauge.Below != 2 || gauge.NoNumber != 3 {
		t.Error("the classes' numbers")
	}
}

func TestPartsOfAnyNumber(t *testing.T) { // P4.1
	for _, f := range someFloats(rand.New(rand.NewSource(1)), 3000) {
		if math.IsNaN(f) || math.IsInf(f, 0) || f == 0 {
			continue
		}
		m, e, c := gauge.Parts(f)
		if c != gauge.Number || m%2 == 0 || scaled(m, e).Cmp(new(big.Rat).SetFloat64(f)) != 0 {
			t.Errorf("Parts(%v) = %d, %d, %d", f, m, e, c)
		}
		if back := gauge.Make(m, e); !same(back, f) {
			t.Errorf("Make(%d, %d) = %v, not %v", m, e, back, f)
		}
	}
}

func TestMake(t *testing.T) { // P4.2
	rows := []struct {
		m    int64
		e    int
		want float64
	}{
		{3, -2, 0.75}, {1, -1075, 0}, {3, -1076, least}, {1, -1074, least}, {-1, -1074, -least},
		{-1, -1075, minusZero}, {-3, -1077, minusZero}, {-3, -1076, -least},
		{0, 0, 0}, {0, math.MaxInt, 0}, {0, math.MinInt, 0}, {0, -1075, 0},
		{1, math.MaxInt, inf}, {-1, math.MaxInt, -inf}, {1, math.MinInt, 0}, {-1, math.MinInt, minusZero},
		{math.MinInt64, math.MinInt, minusZero}, {math.MinInt64, math.MaxInt, -inf}, {math.MaxInt64, math.MinInt, 0},
		{1, 1023, 0x1p1023}, {1, 1024, inf}, {-1, 1024, -inf}, {1, 1025, inf},
		{1<<53 - 1, 971, most}, {1<<54 - 1, 970, inf}, {1<<54 - 3, 970, math.Nextafter(most, 0)},
		{1<<55 - 3, 969, most}, {1<<55 - 2, 969, inf}, {-(1<<55 - 2), 969, -inf},
		{math.MinInt64, -63, -1}, {math.MinInt64, 0, -1 << 63}, {math.MaxInt64, 0, 1 << 63},
		{math.MaxInt64, 961, inf}, {math.MinInt64, 960, -0x1p1023}, {math.MinInt64, 961, -inf},
		{math.MinInt64, -1138, minusZero}, {math.MinInt64, -1137, -least}, {math.MaxInt64, -1138, 0}, {math.MaxInt64, -1139, 0},
		{math.MaxInt64, -1137, least}, {math.MinInt64, -1139, minusZero}, {1<<62 + 1, -1137, least}, {1 << 62, -1137, 0},
	}
	for _, r := range rows {
		if got := gauge.Make(r.m, r.e); !same(got, r.want) {
			t.Errorf("Make(%d, %d) = %v, not %v", r.m, r.e, got, r.want)
		}
	}
}

func TestMakeAtEveryExponent(t *testing.T) { // P4.2
	ms := []int64{
		1, -1, 2, 3, -3, 5, 7, 1<<52 - 1, 1<<52 + 1, 1<<53 - 1, 1<<53 + 1, -(1<<53 + 1), 1<<54 - 1, 1<<54 + 2, 1<<54 + 6,
		1<<62 + 1<<8, 1<<62 + 1<<9, 1<<62 + 1<<8 + 1, 1<<62 + 3<<8, math.MaxInt64, math.MinInt64, math.MinInt64 + 1,
		0x5555555555555555, 1<<53 + 1<<30, 0x7ffffffffffffc00, 0x7ffffffffffffbff, 0x7ffffffffffffe00,
	}
	for e := -1200; e <= 1100; e++ {
		if e == -1000 {
			e = 900 // nothing is near there
		}
		for _, m := range ms {
			if got, want := gauge.Make(m, e), nearest(m, e); !same(got, want) {
				t.Fatalf("Make(%d, %d) = %v, not %v", m, e, got, want)
			}
		}
	}
}

func TestMakeAtRandom(t *testing.T) { // P4.2
	r := rand.New(rand.NewSource(2))
	for range 20000 {
		m := int64(r.Uint64()) >> r.Intn(64)
		if r.Intn(3) == 0 { // much of what lies half-way
			m &= int64(-1) << r.Intn(40)
		}
		e := -1140 + r.Intn(130)
		switch r.Intn(4) {
		case 0:
			e = 950 + r.Intn(90)
		case 1:
			e = r.Intn(200) - 100
		}
		if got, want := gauge.Make(m, e), nearest(m, e); !same(got, want) {
			t.Fatalf("Make(%d, %d) = %v, not %v", m, e, got, want)
		}
	}
}

func TestOfInt(t *testing.T) { // P4.3
	rows := []struct {
		n    int64
		want float64
	}{
		{0, 0}, {1, 1}, {-1, -1}, {9007199254740993, 9007199254740992}, {9007199254740995, 9007199254740996},
		{-9007199254740993, -9007199254740992}, {math.MaxInt64, 1 << 63}, {math.MinInt64, -1 << 63},
	}
	for _, r := range rows {
		if got := gauge.OfInt(r.n); !same(got, r.want) {
			t.Errorf("OfInt(%d) = %v", r.n, got)
		}
	}
	r := rand.New(rand.NewSource(3))
	for range 2000 {
		n := int64(r.Uint64()) >> r.Intn(64)
		if got := gauge.OfInt(n); !same(got, nearest(n, 0)) {
			t.Errorf("OfInt(%d) = %v", n, got)
		}
	}
}

func TestToInt(t *testing.T) { // P4.3
	rows := []struct {
		f    float64
		want int64
		err  api.Errno
	}{
		{0, 0, api.OK}, {minusZero, 0, api.OK}, {least, 0, api.OK}, {-least, 0, api.OK},
		{2.5, 2, api.OK}, {-2.5, -2, api.OK}, {0.99, 0, api.OK}, {-0.99, 0, api.OK}, {-1, -1, api.OK},
		{math.Nextafter(3, 0), 2, api.OK}, {math.Nextafter(-3, 0), -2, api.OK},
		{math.Nextafter(1<<63, 0), 1<<63 - 1024, api.OK}, {1 << 63, 0, api.ErrRange},
		{-1 << 63, math.MinInt64, api.OK}, {math.Nextafter(-1<<63, -inf), 0, api.ErrRange},
		{most, 0, api.ErrRange}, {-most, 0, api.ErrRange}, {inf, 0, api.ErrRange}, {-inf, 0, api.ErrRange},
		{nan, 0, api.ErrNaN}, {math.Float64frombits(0xfff8000000000001), 0, api.ErrNaN},
	}
	for _, r := range rows {
		if got, err := gauge.ToInt(r.f); got != r.want || err != r.err {
			t.Errorf("ToInt(%v) = %d, %v", r.f, got, err)
		}
	}
}

func TestToIntOfAnyNumber(t *testing.T) { // P4.3
	for _, f := range someFloats(rand.New(rand.NewSource(4)), 3000) {
		if math.IsNaN(f) || math.IsInf(f, 0) {
			continue
		}
		whole, _ := new(big.Float).SetFloat64(f).Int(nil)
		got, err := gauge.ToInt(f)
		if whole.IsInt64() && (err != api.OK || got != whole.Int64()) || !whole.IsInt64() && (err != api.ErrRange || got != 0) {
			t.Errorf("ToInt(%v) = %d, %v", f, got, err)
		}
	}
}

// nearestShare divides exactly what the two integers are nearest to.
func nearestShare(part, whole uint64) float64 {
	round := func(n uint64) *big.Rat {
		f, _ := new(big.Rat).SetInt(new(big.Int).SetUint64(n)).Float64()
		return new(big.Rat).SetFloat64(f)
	}
	f, _ := new(big.Rat).Quo(round(part), round(whole)).Float64()
	return f
}

func TestShare(t *testing.T) { // P4.4
	for _, part := range []uint64{0, 1, math.MaxUint64} {
		if f, err := gauge.Share(part, 0); !same(f, 0) || err != api.ErrZero {
			t.Errorf("Share(%d, 0) = %v, %v", part, f, err)
		}
		if n, err := gauge.Permille(part, 0); n != 0 || err != api.ErrZero {
			t.Errorf("Permille(%d, 0) = %v, %v", part, n, err)
		}
	}
	r := rand.New(rand.NewSource(5))
	edges := []uint64{0, 1, 2, 3, 7, 8, 10, 1000, 1<<53 + 1, 1<<53 + 3, 1<<63 - 1, 1 << 63, 1<<63 + 1025, math.MaxUint64 - 1, math.MaxUint64}
	for range 500 {
		edges = append(edges, r.Uint64()>>r.Intn(64))
	}
	for i, part := range edges {
		for _, whole := range append(edges[1:15:15], edges[len(edges)-1-i]) {
			if whole == 0 {
				continue
			}
			share := nearestShare(part, whole)
			if f, err := gauge.Share(part, whole); !same(f, share) || err != api.OK {
				t.Errorf("Share(%d, %d) = %v, %v, not %v", part, whole, f, err, share)
			}
			product, _ := new(big.Rat).Mul(new(big.Rat).SetFloat64(share), big.NewRat(1000, 1)).Float64()
			want, code := gauge.ToInt(product)
			if n, err := gauge.Permille(part, whole); n != want || err != code {
				t.Errorf("Permille(%d, %d) = %v, %v, not %v, %v", part, whole, n, err, want, code)
			}
		}
	}
}

func TestPermille(t *testing.T) { // P4.4
	rows := []struct {
		part, whole uint64
		want        int64
		err         api.Errno
	}{
		{1, 8, 125, api.OK}, {0, 5, 0, api.OK}, {5, 5, 1000, api.OK}, {2, 3, 666, api.OK}, {1, 1001, 0, api.OK}, {3, 1, 3000, api.OK},
		{1, 0, 0, api.ErrZero}, {0, 0, 0, api.ErrZero},
		{math.MaxUint64, 1, 0, api.ErrRange}, {math.MaxUint64, 1000, 0, api.ErrRange},
		{math.MaxUint64, 2000, 0, api.ErrRange}, {math.MaxUint64, 2001, 9218762655527012352, api.OK},
	}
	for _, r := range rows {
		if got, err := gauge.Permille(r.part, r.whole); got != r.want || err != r.err {
			t.Errorf("Permille(%d, %d) = %d, %v", r.part, r.whole, got, err)
		}
	}
}

// steps does what Blend is said to do, with every step rounded from its exact value.
func steps(old, sample float64) float64 {
	difference := sample - old
	quarter := difference / 4
	if !math.IsInf(difference, 0) && !math.IsNaN(difference) {
		quarter, _ = new(big.Rat).Quo(new(big.Rat).SetFloat64(difference), big.NewRat(4, 1)).Float64()
	}
	return old + quarter
}

func TestBlend(t *testing.T) { // P4.5
	rows := []struct{ old, sample, want float64 }{
		{1, 5, 2}, {5, 1, 4}, {2, 2, 2}, {0, 0, 0}, {-1, 1, -0.5},
		{0, least, 0}, {0, 2 * least, 0}, {0, 3 * least, least}, {0, 6 * least, 2 * least}, {least, 3 * least, least},
		{most, -most, -inf}, {-most, most, inf}, {most, most, most},
		{inf, 1, nan}, {1, inf, inf}, {-inf, -inf, nan}, {nan, 1, nan}, {1, nan, nan}, {inf, -inf, nan},
		{1 << 53, 1, 3 * (1 << 51)},
	}
	for _, r := range rows {
		if got := gauge.Blend(r.old, r.sample); got != r.want && !same(got, r.want) {
			t.Errorf("Blend(%v, %v) = %v, not %v", r.old, r.sample, got, r.want)
		}
	}
	floats := someFloats(rand.New(rand.NewSource(6)), 1000)
	for i, old := range floats {
		for _, sample := range []float64{floats[len(floats)-1-i], floats[i/2], floats[i%32]} {
			if got, want := gauge.Blend(old, sample), steps(old, sample); !same(got, want) {
				t.Errorf("Blend(%v, %v) = %v, not %v", old, sample, got, want)
			}
		}
	}
}

func TestMean(t *testing.T) { // P4.5
	var m gauge.Mean
	check := func(value float64, count int) {
		t.Helper()
		for range 2 {
			if !same(m.Value(), value) || m.Count() != count {
				t.Errorf("value %v, count %d; not %v, %d", m.Value(), m.Count(), value, count)
			}
		}
	}
	refused := func() {
		t.Helper()
		for _, f := range []float64{nan, inf, -inf} {
			if err := m.Add(f); err != api.ErrNaN {
				t.Errorf("Add(%v): %v", f, err)
			}
		}
	}
	check(0, 0)
	refused()
	check(0, 0)
	for i, row := range []struct{ sample, value float64 }{{1, 1}, {5, 2}, {2, 2}, {-6, 0}, {0, 0}, {0.5, 0.125}} {
		if err := m.Add(row.sample); err != api.OK {
			t.Errorf("Add(%v): %v", row.sample, err)
		}
		check(row.value, i+1)
		refused()
		check(row.value, i+1)
	}
}

func TestMeanWhoseFirstSampleIsZero(t *testing.T) { // P4.5
	var m gauge.Mean
	m.Add(0)
	m.Add(4) // the second one, though the value is still 0
	if m.Value() != 1 || m.Count() != 2 {
		t.Errorf("value %v, count %d", m.Value(), m.Count())
	}
	var n gauge.Mean
	n.Add(minusZero)
	if !same(n.Value(), minusZero) {
		t.Errorf("value %v", n.Value())
	}
}

func TestMeanBeyondTheGreatest(t *testing.T) { // P4.5
	var m gauge.Mean
	m.Add(most)
	if err := m.Add(-most); err != api.OK || m.Value() != -inf || m.Count() != 2 {
		t.Errorf("%v, %v", err, m.Value())
	}
	if err := m.Add(1); err != api.OK || !math.IsNaN(m.Value()) || m.Count() != 3 {
		t.Errorf("%v, %v", err, m.Value())
	}
}

func TestMeansAreApart(t *testing.T) { // P2
	var a, b gauge.Mean
	a.Add(8)
	b.Add(1)
	copied := a
	a.Add(0)
	if a.Value() != 6 || b.Value() != 1 || b.Count() != 1 || copied.Value() != 8 || copied.Count() != 1 {
		t.Error("one mean hangs on another")
	}
}

func TestLess(t *testing.T) { // P4.6
	rising := []float64{-inf, -most, -1, -least, 0, least, 0.5, 1, math.Nextafter(1, 2), most, inf, nan}
	for i, a := range rising {
		for j, b := range rising {
			if gauge.Less(a, b) != (i < j) {
				t.Errorf("Less(%v, %v) = %v", a, b, gauge.Less(a, b))
			}
		}
	}
	negative := math.Float64frombits(0xfff8000000000001)
	for _, pair := range [][2]float64{{0, minusZero}, {minusZero, 0}, {nan, negative}, {negative, nan}, {negative, -inf}, {negative, negative}} {
		if gauge.Less(pair[0], pair[1]) {
			t.Errorf("Less(%v, %v)", pair[0], pair[1])
		}
	}
	if !gauge.Less(inf, negative) {
		t.Error("what is no number stands behind infinity")
	}
}
