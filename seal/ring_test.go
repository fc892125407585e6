package seal_test

import (
	"maps"
	"math/rand"
	"slices"
	"strconv"
	"strings"
	"testing"

	"depot/api"
	"depot/seal"
)

func TestRing(t *testing.T) { // P16.4
	r := seal.NewRing()
	if len(r.Signers()) != 0 {
		t.Error("a new ring has signers")
	}
	for _, step := range []struct {
		got, want api.Errno
	}{
		{r.Drop("a"), api.ErrMissing},
		{r.Add("b", "1"), api.OK},
		{r.Add("a", "2"), api.OK},
		{r.Add("a", "2"), api.OK},
		{r.Add("a", "1"), api.ErrClash},
		{r.Add("a", "2\x00"), api.ErrClash}, // counts the same, and is another text
		{r.Add("a", ""), api.ErrClash},
		{r.Add("a-", ""), api.OK},
		{r.Add("a-", "\x00"), api.ErrClash},
		{r.Add("", "1"), api.ErrSign},
		{r.Add("A", "1"), api.ErrSign},
		{r.Add("a:", "1"), api.ErrSign},
		{r.Add(strings.Repeat("a", 32), strings.Repeat("k", 100000)), api.OK},
		{r.Add(strings.Repeat("a", 33), "1"), api.ErrSign},
		{r.Drop("A"), api.ErrMissing},
		{r.Drop(""), api.ErrMissing},
		{r.Drop("c"), api.ErrMissing},
		{r.Drop("b"), api.OK},
		{r.Drop("b"), api.ErrMissing},
		{r.Add("b", "other"), api.OK},
		{r.Add("b", "1"), api.ErrClash},
	} {
		if step.got != step.want {
			t.Errorf("%d, not %d", step.got, step.want)
		}
	}
	if got := r.Signers(); !slices.Equal(got, []string{"a", "a-", strings.Repeat("a", 32), "b"}) {
		t.Errorf("Signers: %q", got)
	}
	if n := r.Count("x", []string{signature("a", "2", "x"), signature("b", "other", "x"), signature("a-", "", "x")}); n != 3 {
		t.Errorf("a refused Add has changed a key: %d", n)
	}
}

func TestSignersSharesNothing(t *testing.T) { // P2, rule 4
	r := seal.NewRing()
	for _, signer := range []string{"a", "b", "c"} {
		r.Add(signer, "k")
	}
	other := r.Signers()
	spoil(r.Signers())
	if got := r.Signers(); !slices.Equal(got, []string{"a", "b", "c"}) || !slices.Equal(other, got) {
		t.Errorf("Signers: %q, %q", got, other)
	}
}

func TestCount(t *testing.T) { // P16.5
	r := seal.NewRing()
	if n := r.Count("x", []string{signature("a", "1", "x"), signature("a", "", "x")}); n != 0 {
		t.Errorf("a ring with no signers: %d", n)
	}
	for _, signer := range []string{"a", "b", "c-d"} {
		r.Add(signer, "key of "+signer)
	}
	right := func(signer string) string { return signature(signer, "key of "+signer, "x") }
	for _, c := range []struct {
		what  string
		signs []string
		want  int
	}{
		{"none", nil, 0},
		{"empty", []string{}, 0},
		{"one", []string{right("a")}, 1},
		{"one twice", []string{right("a"), right("a"), right("a")}, 1},
		{"all", []string{right("a"), right("b"), right("c-d")}, 3},
		{"all, falling", []string{right("c-d"), right("b"), right("a")}, 3},
		{"one that isn't in the ring", []string{right("d"), right("c")}, 0},
		{"of another text", []string{signature("a", "key of a", "y"), signature("a", "key of a", "")}, 0},
		{"by another key", []string{signature("a", "key of b", "x")}, 0},
		{"by a key that counts the same", []string{signature("a", "key of a\x00", "x")}, 1},
		{"in another's name", []string{"b" + right("a")[1:]}, 0},
		{"wrong ones beside the right one", []string{signature("a", "1", "x"), right("a"), signature("a", "2", "x")}, 1},
		{"no signatures at all", []string{"", "a", "a:", ":", "a:x", "\xff", right("a") + "0", right("a")[1:], " " + right("a"), strings.ToUpper(right("a")), right("a") + "\n"}, 0},
		{"right ones among others", []string{"zzz", right("b"), "", right("a"), "a:"}, 2},
	} {
		given := slices.Clone(append(c.signs, "spare"))
		if n := r.Count("x", given[:len(given)-1]); n != c.want {
			t.Errorf("%s: %d, not %d", c.what, n, c.want)
		}
		if !slices.Equal(given, append(c.signs, "spare")) {
			t.Errorf("%s: what was handed in is changed", c.what)
		}
	}
}

// checkRing: do Signers and Count answer what the second reading, a map of keys, says?
func checkRing(t *testing.T, r *seal.Ring, keys map[string]string, text string, signs []string) {
	t.Helper()
	if got := r.Signers(); !slices.Equal(got, slices.Sorted(maps.Keys(keys))) {
		t.Fatalf("Signers: %q", got)
	}
	want := 0
	for signer, key := range keys {
		if slices.Contains(signs, signature(signer, key, text)) {
			want++
		}
	}
	old := slices.Clone(signs)
	if got := r.Count(text, signs); got != want || !slices.Equal(signs, old) {
		t.Fatalf("Count: %d, not %d", got, want)
	}
}

func TestRingAtRandom(t *testing.T) { // P16.4, P16.5: names that begin alike, keys that count alike
	rnd := rand.New(rand.NewSource(4))
	names := []string{"a", "a-", "a.", "a0", "aa", "ab", "b", "A", ""}
	texts := []string{"", "x", "y"}
	r := seal.NewRing()
	keys := map[string]string{}
	for range 5000 {
		signer, key := names[rnd.Intn(len(names))], strings.Repeat("\x00", rnd.Intn(3))+strconv.Itoa(rnd.Intn(2))
		known, there := keys[signer]
		want := api.OK
		if rnd.Intn(3) == 0 {
			if !there {
				want = api.ErrMissing
			}
			delete(keys, signer)
			if got := r.Drop(signer); got != want {
				t.Fatalf("Drop(%q) = %d, not %d", signer, got, want)
			}
		} else {
			switch {
			case signer == "" || signer == "A":
				want = api.ErrSign
			case there && known != key:
				want = api.ErrClash
			default:
				keys[signer] = key
			}
			if got := r.Add(signer, key); got != want {
				t.Fatalf("Add(%q, %q) = %d, not %d", signer, key, got, want)
			}
		}
		var signs []string
		for range rnd.Intn(12) {
			by := names[rnd.Intn(7)]
			key := keys[by]
			if rnd.Intn(4) == 0 {
				key = "wrong"
			}
			signs = append(signs, signature(by, key, texts[rnd.Intn(2)]))
		}
		checkRing(t, r, keys, texts[rnd.Intn(3)], signs)
	}
}

func TestRingsAreApart(t *testing.T) { // P2: one ring knows nothing of another
	one, two := seal.NewRing(), seal.NewRing()
	one.Add("a", "1")
	if len(two.Signers()) != 0 || two.Add("a", "2") != api.OK || one.Add("a", "1") != api.OK {
		t.Error("two rings share their signers")
	}
}

func TestCountOfMany(t *testing.T) { // P1: many signers, many signatures and a long text end soon
	r := seal.NewRing()
	text := strings.Repeat("x", 100000)
	signs := make([]string, 0, 100000)
	for k := range 20000 {
		r.Add("s"+strconv.Itoa(k), "k")
	}
	for k := range 100000 {
		signs = append(signs, "s7:"+strconv.Itoa(k))
	}
	signs = append(signs, signature("s7", "k", text), signature("s19999", "k", text))
	if n := r.Count(text, signs); n != 2 {
		t.Errorf("Count: %d", n)
	}
}
