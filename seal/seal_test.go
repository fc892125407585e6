package seal_test

import (
	"crypto/hmac"
	"crypto/sha256"
	"encoding/hex"
	"math"
	"math/rand"
	"slices"
	"strconv"
	"strings"
	"testing"

	"depot/api"
	"depot/info"
	"depot/radix"
	"depot/seal"
)

const store = "/depot/store/0123456789abcdfghijklmnpqrsvwxyz-"

func randomText(r *rand.Rand, n int) string {
	b := make([]byte, n)
	r.Read(b)
	return string(b)
}

// libraryMac: the standard HMAC with SHA-256.
func libraryMac(key, text string) (d api.Digest) {
	h := hmac.New(sha256.New, []byte(key))
	h.Write([]byte(text))
	copy(d[:], h.Sum(nil))
	return d
}

// signature: a second reading of P16.2, for names that may sign.
func signature(signer, key, text string) string {
	d := libraryMac(key, text)
	return signer + ":" + radix.Base32(string(d[:]))
}

// someInfo: an info with nothing wrong.
func someInfo() info.Info {
	return info.Info{Path: store + "p", Hash: api.Digest{1, 2, 3}, Size: 96, Refs: []string{store + "a", store + "b"}, From: store + "f"}
}

// printOf: the fingerprint of an info with nothing wrong.
func printOf(t *testing.T, i info.Info) string {
	t.Helper()
	text, e := info.Fingerprint(i)
	if e != api.OK {
		t.Fatalf("Fingerprint: %d", e)
	}
	return text
}

func TestMacKnown(t *testing.T) { // P16.1: the test cases of RFC 4231
	count := make([]byte, 25)
	for i := range count {
		count[i] = byte(i + 1)
	}
	for _, c := range []struct{ key, text, want string }{
		{strings.Repeat("\x0b", 20), "Hi There", "b0344c61d8db38535ca8afceaf0bf12b881dc200c9833da726e9376c2e32cff7"},
		{"Jefe", "what do ya want for nothing?", "5bdcc146bf60754e6a042426089575c75a003f089d2739839dec58b964ec3843"},
		{strings.Repeat("\xaa", 20), strings.Repeat("\xdd", 50), "773ea91e36800e46854db8ebd09181a72959098b3ef8c122d9635514ced565fe"},
		{string(count), strings.Repeat("\xcd", 50), "82558a389a443c0ea4cc819899f2083a85f0faa3e578f8077a2e3ff46729665b"},
		{strings.Repeat("\xaa", 131), "Test Using Larger Than Block-Size Key - Hash Key First", "60e431591ee0b67f0d8a26aacbf5b77f8e0bc6213728c5140546040f0ee37f54"},
	} {
		d := seal.Mac(c.key, c.text)
		if got := hex.EncodeToString(d[:]); got != c.want {
			t.Errorf("Mac(%q, %q) = %s, not %s", c.key, c.text, got, c.want)
		}
	}
}

func TestMac(t *testing.T) { // P16.1: every length of a key around the edges, all kinds of texts
	r := rand.New(rand.NewSource(1))
	for n := range 200 {
		key := randomText(r, n)
		for _, text := range []string{"", "x", key, randomText(r, 64), randomText(r, r.Intn(300))} {
			if got := seal.Mac(key, text); got != libraryMac(key, text) {
				t.Errorf("Mac(%q, %q) = %x", key, text, got)
			}
		}
	}
	long := strings.Repeat("k", 100000)
	if seal.Mac(long, long) != libraryMac(long, long) {
		t.Error("a long key and a long text")
	}
}

func TestMacKeys(t *testing.T) { // P16.1: noughts behind a key, and keys at the edge
	d := sha256.Sum256([]byte(strings.Repeat("k", 65)))
	if seal.Mac(strings.Repeat("k", 65), "x") != seal.Mac(string(d[:]), "x") {
		t.Error("a key of 65 bytes isn't its digest")
	}
	d = sha256.Sum256([]byte(strings.Repeat("k", 64)))
	if seal.Mac(strings.Repeat("k", 64), "x") == seal.Mac(string(d[:]), "x") {
		t.Error("a key of 64 bytes is its digest")
	}
	if seal.Mac("", "x") != seal.Mac(strings.Repeat("\x00", 64), "x") || seal.Mac("", "x") == seal.Mac(strings.Repeat("\x00", 65), "x") {
		t.Error("noughts")
	}
}

func TestSign(t *testing.T) { // P16.2
	r := rand.New(rand.NewSource(2))
	for _, signer := range []string{"a", "a.b-c", strings.Repeat("z", 32)} {
		for range 100 {
			key, text := randomText(r, r.Intn(100)), randomText(r, r.Intn(100))
			s, e := seal.Sign(signer, key, text)
			if s != signature(signer, key, text) || e != api.OK {
				t.Fatalf("Sign(%q, %q, %q) = %q, %d", signer, key, text, s, e)
			}
			if name, d, e := info.SplitSign(s); name != signer || d != seal.Mac(key, text) || e != api.OK {
				t.Fatalf("SplitSign(%q) = %q, %x, %d", s, name, d, e)
			}
		}
	}
	for _, signer := range []string{"", "A", "a:", "a b", "a\n", strings.Repeat("z", 33)} {
		if s, e := seal.Sign(signer, "k", "x"); s != "" || e != api.ErrSign {
			t.Errorf("Sign by %q: %q, %d", signer, s, e)
		}
	}
}

// checkSigned: is SignInfo's answer the info with that signature in its place?
func checkSigned(t *testing.T, i info.Info, signer, key string) info.Info {
	t.Helper()
	want := i
	want.Signs = append(slices.Clone(i.Signs), signature(signer, key, printOf(t, i)))
	slices.Sort(want.Signs)
	want.Signs = slices.Compact(want.Signs)
	got, e := seal.SignInfo(i, signer, key)
	if e != api.OK || !info.Same(got, want) {
		t.Fatalf("SignInfo(%v, %q, %q) = %v, %d, not %v", i, signer, key, got, e, want)
	}
	if e := info.Check(got); e != api.OK {
		t.Fatalf("SignInfo(%v, %q, %q): Check: %d", i, signer, key, e)
	}
	return got
}

func TestSignInfo(t *testing.T) { // P16.3
	i := someInfo()
	i = checkSigned(t, i, "m", "1")
	i = checkSigned(t, i, "z", "1") // behind
	i = checkSigned(t, i, "b", "1") // ahead
	i = checkSigned(t, i, "m", "2") // another signature of the same signer
	i = checkSigned(t, i, "m-", "1")
	if len(i.Signs) != 5 {
		t.Errorf("%d signatures", len(i.Signs))
	}
	for _, signer := range []string{"m", "z", "b", "m-"} { // there already
		if again := checkSigned(t, i, signer, "1"); !info.Same(again, i) {
			t.Error("signed twice")
		}
	}
	if again := checkSigned(t, i, "b", "1\x00"); !info.Same(again, i) { // a key that counts the same
		t.Error("signed twice by keys that count the same")
	}
}

func TestSignInfoInAnyOrder(t *testing.T) { // P16.3
	r := rand.New(rand.NewSource(3))
	var first info.Info
	for round := range 20 {
		i := someInfo()
		for _, k := range r.Perm(30) {
			i = checkSigned(t, i, "s"+strconv.Itoa(k%10), strconv.Itoa(k/10))
		}
		if round == 0 {
			first = i
		}
		if !info.Same(i, first) || len(i.Signs) != 30 {
			t.Fatal("the order of signing is to be seen")
		}
	}
}

func TestSignInfoWrong(t *testing.T) { // P16.3, P16.6: the errors of Check, in its order, and the signer's behind them
	for _, c := range []struct {
		change func(i *info.Info)
		want   api.Errno
	}{
		{func(i *info.Info) { *i = info.Info{} }, api.ErrPath},
		{func(i *info.Info) { i.Path = store }, api.ErrName},
		{func(i *info.Info) { i.Size = -1 }, api.ErrSize},
		{func(i *info.Info) { i.Refs = []string{"x"} }, api.ErrRefs},
		{func(i *info.Info) { i.Refs = make([]string, 1025) }, api.ErrMany},
		{func(i *info.Info) { i.From = "x" }, api.ErrPath},
		{func(i *info.Info) { i.Signs = []string{"x"} }, api.ErrSign},
		{func(i *info.Info) { i.Signs = []string{signature("b", "", ""), signature("a", "", "")} }, api.ErrSign},
	} {
		i := someInfo()
		c.change(&i)
		for _, signer := range []string{"a", "A"} {
			if got, e := seal.SignInfo(i, signer, "k"); e != c.want || !info.Same(got, info.Info{}) {
				t.Errorf("SignInfo(%.200v, %q) = %v, %d, not %d", i, signer, got, e, c.want)
			}
		}
		for _, k := range []int{-1, 0, 1} {
			if e := seal.NewRing().Verify(i, k); e != c.want {
				t.Errorf("Verify(%.200v, %d) = %d, not %d", i, k, e, c.want)
			}
		}
	}
	for _, signer := range []string{"", "A", "a:", strings.Repeat("z", 33)} {
		if got, e := seal.SignInfo(someInfo(), signer, "k"); e != api.ErrSign || !info.Same(got, info.Info{}) {
			t.Errorf("SignInfo by %q: %v, %d", signer, got, e)
		}
	}
}

// spoil writes over a list and its spare room.
func spoil(list []string) {
	list = list[:cap(list)]
	for i := range list {
		list[i] = "spoilt"
	}
}

func TestSignInfoSharesNothing(t *testing.T) { // P2, rule 4: whether a signature is added or not
	i := someInfo()
	i = checkSigned(t, i, "m", "1")
	i = checkSigned(t, i, "y", "1")
	for _, signer := range []string{"a", "m", "x", "y", "z"} {
		refs := append(slices.Clone(i.Refs), "spare", "room")
		signs := append(slices.Clone(i.Signs), "spare", "room")
		oldRefs, oldSigns := slices.Clone(refs), slices.Clone(signs)
		given := i
		given.Refs, given.Signs = refs[:2], signs[:2]
		got, _ := seal.SignInfo(given, signer, "1")
		other, _ := seal.SignInfo(given, signer, "1")
		if !slices.Equal(refs, oldRefs) || !slices.Equal(signs, oldSigns) {
			t.Errorf("%s: what was handed in is changed", signer)
		}
		spoil(got.Refs)
		if slices.Contains(got.Signs, "spoilt") {
			t.Errorf("%s: two lists of an answer are shared", signer)
		}
		spoil(got.Signs)
		if !slices.Equal(refs, oldRefs) || !slices.Equal(signs, oldSigns) || slices.Contains(other.Refs, "spoilt") || slices.Contains(other.Signs, "spoilt") {
			t.Errorf("%s: an answer is shared", signer)
		}
	}
}

func TestVerify(t *testing.T) { // P16.6
	r := seal.NewRing()
	for _, signer := range []string{"a", "b", "c"} {
		r.Add(signer, "key of "+signer)
	}
	verify := func(i info.Info, signed int) {
		t.Helper()
		for _, k := range []int{math.MinInt, -1, 0, 1, 2, 3, 4, math.MaxInt} {
			want := api.OK
			if signed < k {
				want = api.ErrKey
			}
			if got := r.Verify(i, k); got != want {
				t.Errorf("%d signed, Verify of %d: %d, not %d", signed, k, got, want)
			}
		}
	}
	i := someInfo()
	verify(i, 0)
	i = checkSigned(t, i, "b", "key of b")
	verify(i, 1)
	i = checkSigned(t, i, "a", "key of b") // with another's key
	i = checkSigned(t, i, "d", "key of d") // not in the ring
	verify(i, 1)
	i = checkSigned(t, i, "a", "key of a")
	verify(i, 2)
	i = checkSigned(t, i, "c", "key of c")
	verify(i, 3)
	for k, change := range []func(i *info.Info){ // each is told in the fingerprint
		func(i *info.Info) { i.Path = store + "q" },
		func(i *info.Info) { i.Hash[31] = 1 },
		func(i *info.Info) { i.Size++ },
		func(i *info.Info) { i.Refs = i.Refs[:1] },
	} {
		other := i
		change(&other)
		if e := r.Verify(other, 1); e != api.ErrKey {
			t.Errorf("change %d: %d", k, e)
		}
	}
	i.From = "" // is not told there
	verify(i, 3)
	i.Signs = i.Signs[1:]
	if r.Verify(i, 2) != api.OK {
		t.Error("without the first signature")
	}
	r.Drop("c")
	if r.Verify(i, 3) != api.ErrKey {
		t.Error("without c")
	}
}
