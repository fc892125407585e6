package table_test

import (
	"cmp"
	"iter"
	"maps"
	"math"
	"math/rand"
	"slices"
	"strings"
	"testing"

	"depot/table"
)

// label and number are keys of types of their own.
type (
	label  string
	number int
)

// model is what the document says of a table: a map, sorted whenever it is asked.
type model[K cmp.Ordered, V any] map[K]V

func (m model[K, V]) keys() []K { return slices.Sorted(maps.Keys(m)) }

func (m model[K, V]) rank(k K) int {
	ahead := 0
	for other := range m {
		if other < k {
			ahead++
		}
	}
	return ahead
}

// pairs are keys with their values, as a range hands them out.
type pairs[K table.Key, V comparable] struct {
	keys   []K
	values []V
}

func gathered[K table.Key, V comparable](seq iter.Seq2[K, V]) pairs[K, V] {
	var p pairs[K, V]
	for k, v := range seq {
		p.keys, p.values = append(p.keys, k), append(p.values, v)
	}
	return p
}

// pairsOf: the model's pairs whose keys don't stand ahead of k; all of them, if all is asked for.
func pairsOf[K table.Key, V comparable](m model[K, V], all bool, k K) pairs[K, V] {
	var p pairs[K, V]
	for _, key := range m.keys() {
		if all || key >= k {
			p.keys, p.values = append(p.keys, key), append(p.values, m[key])
		}
	}
	return p
}

func (p pairs[K, V]) equal(q pairs[K, V]) bool {
	return slices.Equal(p.keys, q.keys) && slices.Equal(p.values, q.values)
}

// holdAgainst asks the table everything, at the keys of probes too, and holds the answers against the model.
func holdAgainst[K table.Key, V comparable](t *testing.T, got *table.Table[K, V], want model[K, V], probes []K) {
	t.Helper()
	keys := want.keys()
	if got.Len() != len(want) || !slices.Equal(got.Keys(), keys) {
		t.Fatalf("Len %d, Keys %v, not %v", got.Len(), got.Keys(), keys)
	}
	if all := gathered(got.All()); !all.equal(pairsOf(want, true, *new(K))) {
		t.Fatalf("All: %v, not %v", all, want)
	}
	for _, k := range slices.Concat(keys, probes) {
		value, there := want[k]
		if v, ok := got.Get(k); v != value || ok != there {
			t.Fatalf("Get(%v) = %v, %v", k, v, ok)
		}
		if rank := got.Rank(k); rank != want.rank(k) {
			t.Fatalf("Rank(%v) = %d, not %d", k, rank, want.rank(k))
		}
		if from := gathered(got.From(k)); !from.equal(pairsOf(want, false, k)) {
			t.Fatalf("From(%v): %v", k, from)
		}
	}
	for i, key := range keys {
		if k, v, ok := got.At(i); k != key || v != want[key] || !ok {
			t.Fatalf("At(%d) = %v, %v, %v, not %v, %v", i, k, v, ok, key, want[key])
		}
	}
	for _, i := range []int{-1, len(keys), len(keys) + 1, math.MinInt, math.MaxInt} {
		if k, v, ok := got.At(i); k != *new(K) || v != *new(V) || ok {
			t.Fatalf("At(%d) of %d keys = %v, %v, %v", i, len(keys), k, v, ok)
		}
	}
}

// some: a table with these keys, the length of each as its value.
func some(keys ...string) *table.Table[string, int] {
	m := table.New[string, int]()
	for _, k := range keys {
		m.Put(k, len(k))
	}
	return m
}

func TestNew(t *testing.T) { // P11.1
	holdAgainst(t, table.New[string, int](), nil, []string{"", "a", "\xff"})
	holdAgainst(t, table.New[int, string](), nil, []int{0, 1, -1, math.MinInt, math.MaxInt})
	a, b := table.New[int, int](), table.New[int, int]()
	a.Put(1, 1)
	if b.Len() != 0 {
		t.Error("two new tables are one")
	}
}

func TestPut(t *testing.T) { // P11.1, P11.2
	m := table.New[string, int]()
	want := model[string, int]{}
	rows := []struct {
		key   string
		value int
		fresh bool
	}{
		{"b", 1, true}, {"a", 2, true}, {"b", 3, false}, {"", 4, true}, {"", 0, false}, {"b", 3, false},
		{"a\x00", 5, true}, {"\xff", 6, true}, {"\x80", 7, true}, {"~", 8, true}, {"\x00", 9, true}, {"B", 10, true}, {"a", -1, false},
	}
	for _, r := range rows {
		if fresh := m.Put(r.key, r.value); fresh != r.fresh {
			t.Errorf("Put(%q, %d) = %v", r.key, r.value, fresh)
		}
		want[r.key] = r.value
		holdAgainst(t, m, want, []string{"c", "ab", "\xff\x00", "\x7f"})
	}
	if keys := m.Keys(); !slices.Equal(keys, []string{"", "\x00", "B", "a", "a\x00", "b", "~", "\x80", "\xff"}) {
		t.Errorf("Keys = %q", keys)
	}
}

func TestPutOfNumbers(t *testing.T) { // P11.1, P11.2
	m := table.New[int, string]()
	want := model[int, string]{}
	for _, k := range []int{3, -1, 0, math.MaxInt, math.MinInt, 10, 9, -10, math.MaxInt - 1, math.MinInt + 1} {
		if !m.Put(k, "x") || m.Put(k, "y") {
			t.Errorf("Put(%d)", k)
		}
		want[k] = "y"
		holdAgainst(t, m, want, []int{1, -2, 1 << 40})
	}
}

func TestCut(t *testing.T) { // P11.1, P11.2
	m := some("a", "b", "c", "d")
	want := model[string, int]{"a": 1, "b": 1, "c": 1, "d": 1}
	for _, k := range []string{"", "aa", "e", "\xff"} {
		if m.Cut(k) {
			t.Errorf("Cut(%q) of what isn't there", k)
		}
		holdAgainst(t, m, want, []string{k})
	}
	for _, k := range []string{"b", "a", "d", "c"} {
		if !m.Cut(k) || m.Cut(k) {
			t.Errorf("Cut(%q)", k)
		}
		delete(want, k)
		holdAgainst(t, m, want, []string{k})
	}
	if m.Cut("a") || !m.Put("a", 7) || !m.Cut("a") || !m.Put("a", 8) {
		t.Error("cut and put again")
	}
	holdAgainst(t, m, model[string, int]{"a": 8}, nil)
}

func TestNothingKept(t *testing.T) { // P11.2: a zero value that is kept is told from none
	m := table.New[string, *int]()
	m.Put("", nil)
	if v, ok := m.Get(""); v != nil || !ok || m.Len() != 1 {
		t.Error("a kept nil")
	}
	if k, v, ok := m.At(0); k != "" || v != nil || !ok {
		t.Error("At of a kept nil")
	}
	if m.Put("", nil) || !m.Cut("") || m.Cut("") {
		t.Error("Put and Cut of a kept nil")
	}
}

func TestRank(t *testing.T) { // P11.3
	m := some("b", "d", "dd")
	for k, want := range map[string]int{"": 0, "a": 0, "b": 0, "b\x00": 1, "c": 1, "d": 1, "d\x00": 2, "dd": 2, "ddd": 3, "e": 3, "\xff": 3} {
		if got := m.Rank(k); got != want {
			t.Errorf("Rank(%q) = %d, not %d", k, got, want)
		}
	}
	n := table.New[int, bool]()
	n.Put(-5, true)
	n.Put(5, true)
	for k, want := range map[int]int{math.MinInt: 0, -5: 0, -4: 1, 0: 1, 5: 1, 6: 2, math.MaxInt: 2} {
		if got := n.Rank(k); got != want {
			t.Errorf("Rank(%d) = %d, not %d", k, got, want)
		}
	}
}

func TestKeysAreNewMemory(t *testing.T) { // P11.3, rule 4
	m := some("b", "a", "c")
	keys, others := m.Keys(), m.Keys()
	for i := range keys[:cap(keys)] {
		keys[:cap(keys)][i] = "z"
	}
	if want := []string{"a", "b", "c"}; !slices.Equal(others, want) || !slices.Equal(m.Keys(), want) {
		t.Errorf("%q, %q", others, m.Keys())
	}
}

func TestValuesAsTheyAre(t *testing.T) { // P11.3: handed out as they were handed in, by forks too
	list, place := []int{1, 2, 3}, new(int)
	lists, places := table.New[string, []int](), table.New[int, *int]()
	lists.Put("a", list[:2])
	places.Put(1, place)
	for _, m := range []*table.Table[string, []int]{lists, lists.Fork()} {
		got, _ := m.Get("a")
		_, at, _ := m.At(0)
		for _, l := range [][]int{got, at} {
			if len(l) != 2 || cap(l) != 3 || &l[0] != &list[0] {
				t.Error("a list is another one")
			}
		}
		for _, v := range m.All() {
			if &v[0] != &list[0] {
				t.Error("a list is another one in a range")
			}
		}
	}
	if got, _ := places.Fork().Get(1); got != place {
		t.Error("a pointer is another one")
	}
}

func TestFork(t *testing.T) { // P11.3
	m := some("a", "b", "c")
	f := m.Fork()
	g := f.Fork()
	m.Put("a", 10)
	m.Cut("b")
	f.Put("d", 20)
	f.Cut("c")
	g.Put("c", 30)
	g.Put("", 40)
	holdAgainst(t, m, model[string, int]{"a": 10, "c": 1}, []string{"b", "d"})
	holdAgainst(t, f, model[string, int]{"a": 1, "b": 1, "d": 20}, []string{"c"})
	holdAgainst(t, g, model[string, int]{"": 40, "a": 1, "b": 1, "c": 30}, []string{"d"})
	none := table.New[string, int]()
	other := none.Fork()
	none.Put("x", 1)
	if other.Len() != 0 {
		t.Error("a fork of nothing")
	}
}

func TestRange(t *testing.T) { // P11.4
	m := some("b", "dd", "a")
	rows := []struct {
		seq  iter.Seq2[string, int]
		want string
	}{
		{m.All(), "a b dd"}, {m.From(""), "a b dd"}, {m.From("a"), "a b dd"}, {m.From("a\x00"), "b dd"}, {m.From("b"), "b dd"},
		{m.From("c"), "dd"}, {m.From("dd"), "dd"}, {m.From("dda"), ""}, {m.From("\xff"), ""},
	}
	for i, r := range rows {
		p := gathered(r.seq)
		if strings.Join(p.keys, " ") != r.want {
			t.Errorf("range %d: %q, not %q", i, p.keys, r.want)
		}
		for j, k := range p.keys {
			if p.values[j] != len(k) {
				t.Errorf("range %d: %q with %d", i, k, p.values[j])
			}
		}
	}
	numbers := table.New[number, string]()
	for _, k := range []number{5, -5, 0, math.MinInt, math.MaxInt} {
		numbers.Put(k, "")
	}
	if p := gathered(numbers.From(-5)); !slices.Equal(p.keys, []number{-5, 0, 5, math.MaxInt}) {
		t.Errorf("From(-5): %v", p.keys)
	}
	if p := gathered(numbers.From(math.MinInt)); len(p.keys) != 5 {
		t.Errorf("From the least: %v", p.keys)
	}
	if p := gathered(numbers.From(math.MaxInt)); len(p.keys) != 1 {
		t.Errorf("From the greatest: %v", p.keys)
	}
}

func TestRangeThroughWhatIsThereAtItsBeginning(t *testing.T) { // P11.4
	m := some("a", "c")
	all, from := m.All(), m.From("b")
	m.Put("b", 5)
	m.Put("c", 6) // put behind the asking, ahead of the ranges
	if p := gathered(all); !slices.Equal(p.keys, []string{"a", "b", "c"}) || !slices.Equal(p.values, []int{1, 5, 6}) {
		t.Errorf("All: %v", p)
	}
	if p := gathered(from); !slices.Equal(p.keys, []string{"b", "c"}) || !slices.Equal(p.values, []int{5, 6}) {
		t.Errorf("From: %v", p)
	}
}

func TestRangeWhileTheTableChanges(t *testing.T) { // P11.4
	changes := []func(m *table.Table[string, int], k string){
		func(m *table.Table[string, int], k string) { m.Put("c", 7) },
		func(m *table.Table[string, int], k string) { m.Put(k+"!", 7) },
		func(m *table.Table[string, int], k string) { m.Put("bb", 7) },
		func(m *table.Table[string, int], k string) { m.Put("", 7) },
		func(m *table.Table[string, int], k string) { m.Put("z", 7) },
		func(m *table.Table[string, int], k string) { m.Cut(k) },
		func(m *table.Table[string, int], k string) { m.Cut("c") },
		func(m *table.Table[string, int], k string) { m.Cut("a") },
	}
	for i, change := range changes {
		m := some("a", "b", "c")
		before := m.Fork()
		for range 2 { // the second range finds what the first one left
			want := gathered(before.All())
			var got pairs[string, int]
			for k, v := range m.All() {
				got.keys, got.values = append(got.keys, k), append(got.values, v)
				change(m, k)
			}
			if !got.equal(want) {
				t.Errorf("change %d: All: %v, not %v", i, got, want)
			}
			before = m.Fork()
		}
		want := gathered(before.From("b"))
		var got pairs[string, int]
		for k, v := range m.From("b") {
			got.keys, got.values = append(got.keys, k), append(got.values, v)
			change(m, k)
		}
		if !got.equal(want) {
			t.Errorf("change %d: From: %v, not %v", i, got, want)
		}
	}
}

func TestRangeWhileAllIsCut(t *testing.T) { // P11.4
	m := table.New[int, int]()
	for k := range 1000 {
		m.Put(k, k)
	}
	next := 0
	for k, v := range m.All() {
		if k != next || v != next {
			t.Fatalf("%d, %d, not %d", k, v, next)
		}
		next++
		m.Cut(999 - k)
		m.Cut(k)
		m.Put(-k-1, 0)
		m.Put(2000+k, 0)
	}
	if next != 1000 || m.Len() != 2000 {
		t.Errorf("%d keys came, %d are there", next, m.Len())
	}
}

func TestRangesWithinRanges(t *testing.T) { // P11.4
	m := some("a", "b", "c")
	seq, text := m.All(), ""
	for k := range seq {
		m.Cut(k)
		text += k + "("
		for inner := range seq {
			text += inner
			m.Put(inner, 9)
		}
		text += ")"
	}
	if text != "a(bc)b(c)c()" {
		t.Error(text)
	}
}

func TestStoppedRange(t *testing.T) { // P11.4
	m := table.New[int, int]()
	for k := range 100 {
		m.Put(k, k)
	}
	for stop := range 100 {
		for _, begin := range []int{0, 37, stop} {
			all, from := []int{}, []int{}
			m.All()(func(k, v int) bool {
				all = append(all, k)
				return k != stop
			})
			m.From(begin)(func(k, v int) bool {
				from = append(from, k)
				return k != stop
			})
			if len(all) != stop+1 || all[stop] != stop {
				t.Fatalf("All stopped at %d: %v", stop, all)
			}
			end := stop
			if begin > stop {
				end = 99
			}
			if len(from) != end-begin+1 || from[0] != begin || from[len(from)-1] != end {
				t.Fatalf("From(%d) stopped at %d: %v", begin, stop, from)
			}
		}
	}
	seq := m.All()
	for range 2 { // a stopped range leaves nothing behind for the next
		for k := range seq {
			if k == 50 {
				break
			}
		}
		if p := gathered(seq); len(p.keys) != 100 || p.keys[0] != 0 {
			t.Errorf("the range behind a stopped one: %v", p.keys)
		}
	}
}

func TestNilFunction(t *testing.T) { // P11.4
	for _, m := range []*table.Table[string, int]{some(), some("a", "b")} {
		m.All()(nil)
		m.From("a")(nil)
	}
}

// randomChanges makes changes to tables and models, forks them too, and holds each against its own.
func randomChanges[K table.Key](t *testing.T, seed int64, span int, key func(i int) K) {
	r := rand.New(rand.NewSource(seed))
	tables := []*table.Table[K, int]{table.New[K, int]()}
	models := []model[K, int]{{}}
	for step := range 3000 {
		i := r.Intn(len(tables))
		k := key(r.Intn(span))
		_, there := models[i][k]
		switch puts := step/500%2 == 0; {
		case r.Intn(150) == 0 && len(tables) < 8:
			tables, models = append(tables, tables[i].Fork()), append(models, maps.Clone(models[i]))
		case puts == (r.Intn(4) > 0):
			if tables[i].Put(k, step) == there {
				t.Fatalf("Put(%v) answers %v", k, there)
			}
			models[i][k] = step
		default:
			if tables[i].Cut(k) != there {
				t.Fatalf("Cut(%v) answers %v", k, !there)
			}
			delete(models[i], k)
		}
		if step%50 == 0 {
			for j := range tables {
				holdAgainst(t, tables[j], models[j], []K{key(r.Intn(span)), key(r.Intn(span))})
			}
		}
	}
}

func TestRandomChanges(t *testing.T) { // P11.1 to P11.4
	randomChanges(t, 111, 60, func(i int) int { return i - 30 })
	randomChanges(t, 112, 5, func(i int) number { return number(i) * math.MaxInt })
	randomChanges(t, 113, 150, func(i int) label { return label(strings.Repeat("\xfea", i%7) + string(rune(i))) })
	randomChanges(t, 114, 40, func(i int) string { return strings.Repeat("a", i) })
}

func TestManyKeys(t *testing.T) { // P11.1 to P11.4: rising, falling and mixed keys, all of them cut again
	const many = 200000
	orders := map[string]func(i int) int{
		"rising":  func(i int) int { return i },
		"falling": func(i int) int { return many - 1 - i },
		"mixed":   func(i int) int { return i * 77773 % many },
	}
	for name, order := range orders {
		m := table.New[int, int]()
		for i := range many {
			if !m.Put(order(i), i) {
				t.Fatalf("%s: Put %d", name, i)
			}
		}
		if m.Len() != many || m.Rank(many/3) != many/3 {
			t.Errorf("%s: %d keys", name, m.Len())
		}
		f := m.Fork()
		for i := range many {
			k, _, ok := m.At(m.Rank(order(i)))
			if k != order(i) || !ok || !m.Cut(k) {
				t.Fatalf("%s: Cut %d", name, i)
			}
		}
		if m.Len() != 0 || f.Len() != many {
			t.Errorf("%s: %d and %d keys", name, m.Len(), f.Len())
		}
	}
}
