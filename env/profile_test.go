package env_test

import (
	"fmt"
	"math"
	"math/rand"
	"slices"
	"strings"
	"testing"

	"depot/api"
	"depot/env"
)

// at: a store path for each label.
func at(label string) string { return "/depot/store/" + strings.Repeat("0", 32) + "-" + label }

// gen: the generation of that number, with the path that set gives it.
func gen(n int) env.Gen { return env.Gen{Number: n, Path: at(fmt.Sprint(n))} }

func gens(numbers ...int) []env.Gen {
	var list []env.Gen
	for _, n := range numbers {
		list = append(list, gen(n))
	}
	return list
}

// set: a profile to which so many generations came.
func set(t *testing.T, count int) *env.Profile {
	t.Helper()
	p := env.NewProfile()
	for i := 1; i <= count; i++ {
		if n, code := p.Set(at(fmt.Sprint(i))); n != i || code != api.OK {
			t.Fatalf("Set %d = %d, %d", i, n, code)
		}
	}
	return p
}

// holdProfile: the profile has these generations, and that one is current (0: none).
func holdProfile(t *testing.T, p *env.Profile, current int, numbers ...int) {
	t.Helper()
	for range 2 {
		all := p.All()
		if !slices.Equal(all, gens(numbers...)) {
			t.Errorf("All = %v, not %v", all, numbers)
		}
		clear(all[:cap(all)])
	}
	want := env.Gen{}
	if current != 0 {
		want = gen(current)
	}
	if got, there := p.Current(); got != want || there != (current != 0) {
		t.Errorf("Current = %v, %v, not %d", got, there, current)
	}
}

func holdCode(t *testing.T, got, want api.Errno) {
	t.Helper()
	if got != want {
		t.Errorf("%d, not %d", got, want)
	}
}

func TestEmptyProfile(t *testing.T) { // P23.2, P23.3, P23.4
	p := env.NewProfile()
	holdProfile(t, p, 0)
	holdCode(t, p.Back(), api.ErrNone)
	for _, n := range []int{0, 1, -1, math.MaxInt, math.MinInt} {
		holdCode(t, p.Go(n), api.ErrMissing)
		holdCode(t, p.Drop(n), api.ErrMissing)
		if gone := p.Keep(n); len(gone) != 0 {
			t.Errorf("Keep(%d) = %v", n, gone)
		}
	}
	holdProfile(t, p, 0)
	if n, code := p.Set(at("1")); n != 1 || code != api.OK {
		t.Errorf("Set = %d, %d", n, code)
	}
	holdProfile(t, p, 1, 1)
}

func TestSet(t *testing.T) { // P23.2: one more than the greatest number that was ever given
	p := set(t, 3)
	holdProfile(t, p, 3, 1, 2, 3)
	holdCode(t, p.Go(1), api.OK)
	holdCode(t, p.Drop(3), api.OK)
	holdCode(t, p.Drop(2), api.OK)
	if n, code := p.Set(at("4")); n != 4 || code != api.OK {
		t.Errorf("Set = %d, %d", n, code)
	}
	holdProfile(t, p, 4, 1, 4)
	holdCode(t, p.Go(1), api.OK)
	p.Keep(0)
	if n, code := p.Set(at("5")); n != 5 || code != api.OK {
		t.Errorf("Set = %d, %d", n, code)
	}
	holdProfile(t, p, 5, 1, 5)
	holdCode(t, p.Back(), api.OK)
	if n, code := p.Set(at("6")); n != 6 || code != api.OK {
		t.Errorf("Set = %d, %d", n, code)
	}
	holdProfile(t, p, 6, 1, 5, 6)
}

func TestSetTheSamePath(t *testing.T) { // P23.2: a new generation each time
	p := env.NewProfile()
	for i := 1; i <= 3; i++ {
		if n, code := p.Set(at("x")); n != i || code != api.OK {
			t.Errorf("Set = %d, %d", n, code)
		}
	}
	want := []env.Gen{{Number: 1, Path: at("x")}, {Number: 2, Path: at("x")}, {Number: 3, Path: at("x")}}
	if got := p.All(); !slices.Equal(got, want) {
		t.Errorf("All = %v", got)
	}
}

func TestSetOfWrongPaths(t *testing.T) { // P23.2: spath.Parse's error and 0; nothing has changed, the next number neither
	rows := []struct {
		path string
		code api.Errno
	}{
		{"", api.ErrPath},
		{"x", api.ErrPath},
		{"/depot/store/", api.ErrPath},
		{"/depot/stor/" + strings.Repeat("0", 32) + "-a", api.ErrPath},
		{"/depot/store/" + strings.Repeat("0", 32), api.ErrPath},
		{"/depot/store/" + strings.Repeat("0", 31) + "e-a", api.ErrHash},
		{"/depot/store/" + strings.Repeat("0", 32) + "-", api.ErrName},
		{"/depot/store/" + strings.Repeat("0", 32) + "-.a", api.ErrName},
		{at(strings.Repeat("a", 212)), api.ErrName},
		{at("a/b"), api.ErrName},
		{at("a") + "\n", api.ErrName},
	}
	p, empty := set(t, 3), env.NewProfile()
	holdCode(t, p.Back(), api.OK)
	for _, r := range rows {
		for _, q := range []*env.Profile{p, empty} {
			if n, code := q.Set(r.path); n != 0 || code != r.code {
				t.Errorf("Set(%q) = %d, %d, not %d", r.path, n, code, r.code)
			}
		}
	}
	holdProfile(t, p, 2, 1, 2, 3)
	holdProfile(t, empty, 0)
	if n, code := p.Set(at("4")); n != 4 || code != api.OK {
		t.Errorf("Set = %d, %d", n, code)
	}
	if n, code := empty.Set(at(strings.Repeat("a", 211))); n != 1 || code != api.OK {
		t.Errorf("Set = %d, %d", n, code)
	}
}

func TestBack(t *testing.T) { // P23.3
	p := set(t, 4)
	for i := 3; i > 0; i-- {
		holdCode(t, p.Back(), api.OK)
		holdProfile(t, p, i, 1, 2, 3, 4)
	}
	holdCode(t, p.Back(), api.ErrNone)
	holdProfile(t, p, 1, 1, 2, 3, 4)
	// Over a gap.
	holdCode(t, p.Go(4), api.OK)
	holdCode(t, p.Drop(3), api.OK)
	holdCode(t, p.Drop(2), api.OK)
	holdCode(t, p.Back(), api.OK)
	holdProfile(t, p, 1, 1, 4)
	// None is lesser, though there are greater ones.
	q := set(t, 3)
	holdCode(t, q.Drop(1), api.OK)
	holdCode(t, q.Go(2), api.OK)
	holdCode(t, q.Back(), api.ErrNone)
	holdProfile(t, q, 2, 2, 3)
	holdCode(t, set(t, 1).Back(), api.ErrNone)
}

func TestGo(t *testing.T) { // P23.3
	p := set(t, 3)
	for _, n := range []int{1, 3, 2, 2} {
		holdCode(t, p.Go(n), api.OK)
		holdProfile(t, p, n, 1, 2, 3)
	}
	for _, n := range []int{0, -1, 4, math.MaxInt, math.MinInt} {
		holdCode(t, p.Go(n), api.ErrMissing)
	}
	holdCode(t, p.Drop(3), api.OK)
	holdCode(t, p.Go(3), api.ErrMissing)
	holdProfile(t, p, 2, 1, 2)
}

func TestDrop(t *testing.T) { // P23.3
	p := set(t, 4)
	for _, n := range []int{0, -1, 5, math.MaxInt, math.MinInt} {
		holdCode(t, p.Drop(n), api.ErrMissing)
	}
	holdCode(t, p.Drop(4), api.ErrInUse)
	holdProfile(t, p, 4, 1, 2, 3, 4)
	holdCode(t, p.Drop(2), api.OK)
	holdCode(t, p.Drop(2), api.ErrMissing)
	holdProfile(t, p, 4, 1, 3, 4)
	holdCode(t, p.Go(1), api.OK)
	holdCode(t, p.Drop(1), api.ErrInUse)
	holdCode(t, p.Drop(4), api.OK)
	holdProfile(t, p, 1, 1, 3)
}

func TestKeep(t *testing.T) { // P23.4
	rows := []struct {
		current, k  int
		gone, stays []int
	}{
		{5, 0, []int{1, 2, 3, 4}, []int{5}},
		{5, 1, []int{1, 2, 3, 4}, []int{5}},
		{5, 2, []int{1, 2, 3}, []int{4, 5}},
		{5, 4, []int{1}, []int{2, 3, 4, 5}},
		{5, 5, nil, []int{1, 2, 3, 4, 5}},
		{5, 6, nil, []int{1, 2, 3, 4, 5}},
		{5, math.MaxInt, nil, []int{1, 2, 3, 4, 5}},
		{5, -1, []int{1, 2, 3, 4}, []int{5}},
		{5, math.MinInt, []int{1, 2, 3, 4}, []int{5}},
		{1, 0, []int{2, 3, 4, 5}, []int{1}},
		{1, 1, []int{2, 3, 4}, []int{1, 5}},
		{1, 4, nil, []int{1, 2, 3, 4, 5}},
		{3, 0, []int{1, 2, 4, 5}, []int{3}},
		{3, 1, []int{1, 2, 4}, []int{3, 5}},
		{3, 2, []int{1, 2}, []int{3, 4, 5}},
		{3, 3, []int{1, 2}, []int{3, 4, 5}},
		{3, 4, []int{1}, []int{2, 3, 4, 5}},
	}
	for _, r := range rows {
		p := set(t, 5)
		p.Go(r.current)
		gone := p.Keep(r.k)
		if !slices.Equal(gone, gens(r.gone...)) {
			t.Errorf("Keep(%d) with %d = %v, not %v", r.k, r.current, gone, r.gone)
		}
		clear(gone[:cap(gone)])
		holdProfile(t, p, r.current, r.stays...)
		if again := p.Keep(max(r.k, len(r.stays))); len(again) != 0 {
			t.Errorf("%v went", again)
		}
	}
}

// record is what the document says of a profile.
type record struct {
	numbers       []int
	current, last int
}

// step does one thing to a profile and to the record, and tells whether both answered the same.
func (m *record) step(r *rand.Rand, p *env.Profile) bool {
	n := r.Intn(m.last+3) - 1
	has := slices.Contains(m.numbers, n)
	switch r.Intn(6) {
	case 0, 1:
		m.last++
		m.numbers, m.current = append(m.numbers, m.last), m.last
		got, code := p.Set(at(fmt.Sprint(m.last)))
		return got == m.last && code == api.OK
	case 2:
		place := slices.Index(m.numbers, m.current)
		if place < 1 {
			return p.Back() == api.ErrNone
		}
		m.current = m.numbers[place-1]
		return p.Back() == api.OK
	case 3:
		if !has {
			return p.Go(n) == api.ErrMissing
		}
		m.current = n
		return p.Go(n) == api.OK
	case 4:
		if !has {
			return p.Drop(n) == api.ErrMissing
		} else if n == m.current {
			return p.Drop(n) == api.ErrInUse
		}
		m.numbers = slices.DeleteFunc(m.numbers, func(i int) bool { return i == n })
		return p.Drop(n) == api.OK
	}
	k := r.Intn(30) - 2
	var gone, stay []int
	for i, number := range m.numbers {
		if len(m.numbers)-i <= k || number == m.current {
			stay = append(stay, number)
		} else {
			gone = append(gone, number)
		}
	}
	m.numbers = stay
	return slices.Equal(p.Keep(k), gens(gone...))
}

func TestRandomProfiles(t *testing.T) { // P23.2, P23.3, P23.4
	r := rand.New(rand.NewSource(232))
	for range 300 {
		p, other := env.NewProfile(), set(t, 2)
		m := &record{}
		for i := range 60 {
			if !m.step(r, p) {
				t.Fatalf("step %d: another answer; now %v", i, *m)
			}
			holdProfile(t, p, m.current, m.numbers...)
			if t.Failed() {
				t.FailNow()
			}
		}
		holdProfile(t, other, 2, 1, 2)
	}
}
