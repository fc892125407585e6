package info_test

import (
	"math"
	"math/big"
	"math/rand"
	"regexp"
	"slices"
	"strconv"
	"strings"
	"testing"

	"depot/api"
	"depot/info"
	"depot/spath"
)

const (
	letters   = "0123456789abcdfghijklmnpqrsvwxyz"
	nameBytes = "abcdefghijklmnopqrstuvwxyz0123456789.-"
	dir       = "/depot/store/"
	noDigest  = "0000000000000000000000000000000000000000000000000000" // of 32 bytes 0
)

// signerForm and digestForm are a second reading of P15.1: 52 letters tell 260 bits, of which the highest four must be 0.
var (
	signerForm = regexp.MustCompile(`\A[a-z0-9.\-]{1,32}\z`)
	digestForm = regexp.MustCompile(`\A[01][0-9a-df-np-sv-z]{51}\z`)
)

func path(label string) string { return dir + letters + "-" + label }

func base(label string) string { return letters + "-" + label }

func sign(signer string) string { return signer + ":" + noDigest }

func signerError(s string) api.Errno {
	if !signerForm.MatchString(s) {
		return api.ErrSign
	}
	return api.OK
}

func signError(s string) api.Errno {
	mark := strings.LastIndexByte(s, ':')
	if mark < 0 || !signerForm.MatchString(s[:mark]) || !digestForm.MatchString(s[mark+1:]) {
		return api.ErrSign
	}
	return api.OK
}

// numberOf: the digest whose bytes, the first the lowest, are the number that the letters tell.
func numberOf(digits string) (d api.Digest) {
	n := new(big.Int)
	for _, c := range []byte(digits) {
		n.Mul(n, big.NewInt(32)).Add(n, big.NewInt(int64(strings.IndexByte(letters, c))))
	}
	n.FillBytes(d[:])
	slices.Reverse(d[:])
	return d
}

// lettersOf: the letters of the number that the bytes are, the first the lowest.
func lettersOf(d api.Digest) string {
	slices.Reverse(d[:])
	n := new(big.Int).SetBytes(d[:])
	var out []byte
	for range 52 {
		rest := new(big.Int)
		n.DivMod(n, big.NewInt(32), rest)
		out = append(out, letters[rest.Int64()])
	}
	slices.Reverse(out)
	return string(out)
}

func randomDigest(r *rand.Rand) (d api.Digest) {
	r.Read(d[:])
	return d
}

// labels: n labels, rising.
func labels(n int) []string {
	out := make([]string, n)
	for i := range out {
		out[i] = strconv.Itoa(10000 + i)
	}
	return out
}

// paths: n store paths, rising.
func paths(n int) []string {
	out := labels(n)
	for i := range out {
		out[i] = path(out[i])
	}
	return out
}

// signs: n signatures, rising.
func signs(r *rand.Rand, n int) []string {
	out := labels(n)
	for i := range out {
		out[i] += ":" + lettersOf(randomDigest(r))
	}
	return out
}

func randomInfo(r *rand.Rand) info.Info {
	i := info.Info{Path: path("p" + strconv.Itoa(r.Intn(100))), Hash: randomDigest(r), Size: r.Intn(api.MaxArchive + 1)}
	if r.Intn(4) == 0 {
		i.Size = r.Intn(3)
	}
	i.Refs = paths(r.Intn(4))
	if r.Intn(2) == 0 {
		i.From = path("from")
	}
	i.Signs = signs(r, r.Intn(4))
	return i
}

// linesOf: a second reading of P15.3, for infos with nothing wrong.
func linesOf(i info.Info) string {
	out := []string{"Path: " + i.Path, "Hash: sha256:" + lettersOf(i.Hash), "Size: " + strconv.Itoa(i.Size)}
	refs := []string{"Refs:"}
	for _, ref := range i.Refs {
		refs = append(refs, strings.TrimPrefix(ref, dir))
	}
	out = append(out, strings.Join(refs, " "))
	if i.From != "" {
		out = append(out, "From: "+i.From)
	}
	for _, s := range i.Signs {
		out = append(out, "Sign: "+s)
	}
	return strings.Join(out, "\n") + "\n"
}

func TestMaxSigner(t *testing.T) {
	if info.MaxSigner != 32 {
		t.Error("MaxSigner")
	}
}

func checkSigner(t *testing.T, s string, want api.Errno) {
	t.Helper()
	if got := info.CheckSigner(s); got != want {
		t.Errorf("CheckSigner(%q) = %d, not %d", s, got, want)
	}
}

func TestCheckSigner(t *testing.T) { // P15.1
	for _, s := range []string{"a", "z", "0", "9", ".", "-", "..", "a.b-c", nameBytes[:32], nameBytes[6:], strings.Repeat("x", 32)} {
		checkSigner(t, s, api.OK)
	}
	for _, s := range []string{"", "A", "Z", "a b", "a:", ":", "a_b", "a/b", "a\n", "\n", "é", "a\x00", nameBytes[:33], strings.Repeat("x", 33), strings.Repeat("-", 100000)} {
		checkSigner(t, s, api.ErrSign)
	}
}

func TestCheckSignerByteByByte(t *testing.T) { // P15.1: each byte, alone, ahead, within and behind
	for b := range 256 {
		c := string([]byte{byte(b)})
		for _, s := range []string{c, c + "a", "a" + c + "a", "a" + c, strings.Repeat("a", 31) + c, strings.Repeat("a", 32) + c} {
			checkSigner(t, s, signerError(s))
		}
	}
}

// checkSplit: does SplitSign answer what the second reading says, and CheckSign the same error?
func checkSplit(t *testing.T, s string) {
	t.Helper()
	want := signError(s)
	var signer string
	var sum api.Digest
	if want == api.OK {
		mark := strings.IndexByte(s, ':')
		signer, sum = s[:mark], numberOf(s[mark+1:])
	}
	if n, d, e := info.SplitSign(s); n != signer || d != sum || e != want {
		t.Errorf("SplitSign(%q) = %q, %x, %d, not %q, %x, %d", s, n, d, e, signer, sum, want)
	}
	if e := info.CheckSign(s); e != want {
		t.Errorf("CheckSign(%q) = %d, not %d", s, e, want)
	}
}

func TestSplitSign(t *testing.T) { // P15.1
	r := rand.New(rand.NewSource(1))
	for _, signer := range []string{"a", "a.b", "-", strings.Repeat("0", 32)} {
		d := randomDigest(r)
		n, sum, e := info.SplitSign(signer + ":" + lettersOf(d))
		if n != signer || sum != d || e != api.OK {
			t.Errorf("SplitSign of %s and %x: %s, %x, %d", signer, d, n, sum, e)
		}
		checkSplit(t, signer+":"+lettersOf(d))
	}
}

func TestSplitSignAtTheEdges(t *testing.T) { // P15.1
	highest := "1" + strings.Repeat("z", 51) // the number of 32 bytes 255: nothing wrong with it
	for _, s := range []string{
		"", "a", ":", "a:", noDigest, ":" + noDigest, "a" + noDigest, "a:" + highest, "a:2" + noDigest[1:], "a:z" + noDigest[1:],
		"a:" + noDigest[1:], "a:0" + noDigest, "a: " + noDigest[1:], "a::" + noDigest, "a:b:" + noDigest, "a:" + noDigest + ":", "a:" + noDigest + "\n",
		" a:" + noDigest, "a :" + noDigest, "a: " + noDigest, "A:" + noDigest, "a;" + noDigest, "a:" + noDigest[:26] + ":" + noDigest[27:],
		strings.Repeat("a", 32) + ":" + noDigest, strings.Repeat("a", 33) + ":" + noDigest, "a:" + strings.Repeat("0", 104), "a:" + strings.Repeat("0", 50),
		"a:" + strings.Repeat("0", 8), strings.Repeat(":", 100), "a:" + strings.Repeat("0", 100000),
	} {
		checkSplit(t, s)
	}
	for at := range 54 {
		for b := range 256 {
			s := []byte(sign("a"))
			s[at] = byte(b)
			checkSplit(t, string(s))
		}
	}
}

// checkInfo: is that the error of Check, of Print, and of Fingerprint if the signatures have no part in it?
func checkInfo(t *testing.T, what string, i info.Info, want api.Errno) {
	t.Helper()
	if got := info.Check(i); got != want {
		t.Errorf("%s: Check: %d, not %d", what, got, want)
	}
	text, e := info.Print(i)
	if e != want || (text == "") != (want != api.OK) {
		t.Errorf("%s: Print: %.100q, %d, not %d", what, text, e, want)
	}
	bare := i
	bare.Signs = nil
	without := info.Check(bare)
	text, e = info.Fingerprint(i)
	if e != without || (text == "") != (without != api.OK) {
		t.Errorf("%s: Fingerprint: %.100q, %d, not %d", what, text, e, without)
	}
}

func TestCheck(t *testing.T) { // P15.2, and the errors of P15.3 and P15.4
	whole := func(change func(i *info.Info)) info.Info {
		i := info.Info{Path: path("p"), Size: 96, Refs: []string{path("a"), path("b")}, From: path("f"), Signs: []string{sign("a"), sign("b")}}
		change(&i)
		return i
	}
	for _, c := range []struct {
		what   string
		change func(i *info.Info)
		want   api.Errno
	}{
		{"all right", func(i *info.Info) {}, api.OK},
		{"nothing but a path", func(i *info.Info) { *i = info.Info{Path: path("p")} }, api.OK},
		{"the zero info", func(i *info.Info) { *i = info.Info{} }, api.ErrPath},
		{"no path", func(i *info.Info) { i.Path = "" }, api.ErrPath},
		{"a base", func(i *info.Info) { i.Path = base("p") }, api.ErrPath},
		{"a path with no hash", func(i *info.Info) { i.Path = dir + strings.Repeat("e", 32) + "-p" }, api.ErrHash},
		{"a path with no label", func(i *info.Info) { i.Path = path(".p") }, api.ErrName},
		{"below 0", func(i *info.Info) { i.Size = -1 }, api.ErrSize},
		{"far below 0", func(i *info.Info) { i.Size = math.MinInt }, api.ErrSize},
		{"0", func(i *info.Info) { i.Size = 0 }, api.OK},
		{"MaxArchive", func(i *info.Info) { i.Size = 1048576 }, api.OK},
		{"above MaxArchive", func(i *info.Info) { i.Size = 1048577 }, api.ErrSize},
		{"far above MaxArchive", func(i *info.Info) { i.Size = math.MaxInt }, api.ErrSize},
		{"itself among the references", func(i *info.Info) { i.Refs = []string{path("p")} }, api.OK},
		{"references falling", func(i *info.Info) { i.Refs = []string{path("b"), path("a")} }, api.ErrRefs},
		{"one reference twice", func(i *info.Info) { i.Refs = []string{path("a"), path("a")} }, api.ErrRefs},
		{"a reference that is no path", func(i *info.Info) { i.Refs = []string{base("a")} }, api.ErrRefs},
		{"an empty reference", func(i *info.Info) { i.Refs = []string{""} }, api.ErrRefs},
		{"as many references as may be", func(i *info.Info) { i.Refs = paths(1024) }, api.OK},
		{"one reference too many", func(i *info.Info) { i.Refs = paths(1025) }, api.ErrMany},
		{"made from itself", func(i *info.Info) { i.From = path("p") }, api.OK},
		{"made from nothing", func(i *info.Info) { i.From = "" }, api.OK},
		{"made from no path", func(i *info.Info) { i.From = "x" }, api.ErrPath},
		{"made from a path with no hash", func(i *info.Info) { i.From = dir + strings.Repeat("e", 32) + "-p" }, api.ErrHash},
		{"made from a path with no label", func(i *info.Info) { i.From = path("") }, api.ErrName},
		{"no signatures", func(i *info.Info) { i.Signs = []string{} }, api.OK},
		{"signatures falling", func(i *info.Info) { i.Signs = []string{sign("b"), sign("a")} }, api.ErrSign},
		{"the last signatures falling", func(i *info.Info) { i.Signs = []string{sign("a"), sign("c"), sign("b")} }, api.ErrSign},
		{"one signature twice", func(i *info.Info) { i.Signs = []string{sign("a"), sign("a")} }, api.ErrSign},
		{"two signatures of one signer", func(i *info.Info) { i.Signs = []string{sign("a"), sign("a")[:53] + "1"} }, api.OK},
		{"rising by the names alone", func(i *info.Info) { i.Signs = []string{sign("a"), sign("a-")} }, api.ErrSign},
		{"rising by the bytes", func(i *info.Info) { i.Signs = []string{sign("a-"), sign("a")} }, api.OK},
		{"an empty signature", func(i *info.Info) { i.Signs = []string{""} }, api.ErrSign},
		{"a last signature that is none", func(i *info.Info) { i.Signs = []string{sign("a"), "b"} }, api.ErrSign},
		{"a first signature that is none", func(i *info.Info) { i.Signs = []string{"a", sign("b")} }, api.ErrSign},
		{"many signatures", func(i *info.Info) { i.Signs = signs(rand.New(rand.NewSource(2)), 5000) }, api.OK},
	} {
		checkInfo(t, c.what, whole(c.change), c.want)
	}
}

func TestCheckInOrder(t *testing.T) { // P15.2: the error that is named first
	i := info.Info{Path: "x", Size: -1, Refs: []string{"x"}, From: path(".x"), Signs: []string{"x"}}
	checkInfo(t, "all wrong", i, api.ErrPath)
	i.Path = path("p")
	checkInfo(t, "the path right", i, api.ErrSize)
	i.Size = 1
	checkInfo(t, "the size right", i, api.ErrRefs)
	i.Refs = nil
	checkInfo(t, "the references right", i, api.ErrName)
	i.From = ""
	checkInfo(t, "made from nothing", i, api.ErrSign)
	i.Signs = nil
	checkInfo(t, "all right", i, api.OK)
}

func TestPrint(t *testing.T) { // P15.3
	i := info.Info{Path: path("p")}
	least := "Path: /depot/store/0123456789abcdfghijklmnpqrsvwxyz-p\nHash: sha256:" + noDigest + "\nSize: 0\nRefs:\n"
	if text, e := info.Print(i); text != least || e != api.OK {
		t.Errorf("Print of the least: %q, %d", text, e)
	}
	i = info.Info{Path: path("p"), Size: 1048576, Refs: []string{path("a"), path("b")}, From: path("f"), Signs: []string{sign("a"), sign("b")}}
	i.Hash[0], i.Hash[31] = 1, 0x80
	most := "Path: " + path("p") + "\nHash: sha256:1" + noDigest[2:] + "1\nSize: 1048576\nRefs: " + base("a") + " " + base("b") +
		"\nFrom: " + path("f") + "\nSign: a:" + noDigest + "\nSign: b:" + noDigest + "\n"
	if text, e := info.Print(i); text != most || e != api.OK {
		t.Errorf("Print of the most: %q, %d", text, e)
	}
	r := rand.New(rand.NewSource(3))
	for range 2000 {
		i := randomInfo(r)
		if text, e := info.Print(i); text != linesOf(i) || e != api.OK {
			t.Fatalf("Print: %q, %d, not %q", text, e, linesOf(i))
		}
	}
}

func TestFingerprint(t *testing.T) { // P15.4
	r := rand.New(rand.NewSource(4))
	for range 2000 {
		i := randomInfo(r)
		want := "1;" + i.Path + ";sha256:" + lettersOf(i.Hash) + ";" + strconv.Itoa(i.Size) + ";"
		for k, ref := range i.Refs {
			if k > 0 {
				want += ","
			}
			want += ref
		}
		if text, e := info.Fingerprint(i); text != want || e != api.OK {
			t.Fatalf("Fingerprint: %q, %d, not %q", text, e, want)
		}
		i.Signs = []string{"no signature", ""}
		if text, e := info.Fingerprint(i); text != want || e != api.OK {
			t.Fatalf("Fingerprint with signatures that are none: %q, %d", text, e)
		}
		i.From = path("other")
		if text, e := info.Fingerprint(i); text != want || e != api.OK {
			t.Fatalf("Fingerprint made from another: %q, %d", text, e)
		}
		i.From = "x"
		if text, e := info.Fingerprint(i); text != "" || e != api.ErrPath {
			t.Fatalf("Fingerprint made from no path: %q, %d", text, e)
		}
	}
}

func TestSame(t *testing.T) { // P15.6
	one := info.Info{Path: "p", Hash: api.Digest{1}, Size: 1, Refs: []string{"a", "b"}, From: "f", Signs: []string{"x", "y"}}
	again := info.Info{Path: "p", Hash: api.Digest{1}, Size: 1, Refs: []string{"a", "b"}, From: "f", Signs: []string{"x", "y"}}
	if !info.Same(one, again) || !info.Same(info.Info{}, info.Info{}) {
		t.Error("the same aren't")
	}
	if !info.Same(info.Info{Refs: []string{}, Signs: []string{}}, info.Info{}) || !info.Same(info.Info{}, info.Info{Refs: []string{}, Signs: []string{}}) {
		t.Error("an empty list isn't an empty list")
	}
	for k, change := range []func(i *info.Info){
		func(i *info.Info) { i.Path = "q" },
		func(i *info.Info) { i.Hash[31] = 1 },
		func(i *info.Info) { i.Hash[0] = 2 },
		func(i *info.Info) { i.Size = -1 },
		func(i *info.Info) { i.Refs = nil },
		func(i *info.Info) { i.Refs = []string{"a"} },
		func(i *info.Info) { i.Refs = []string{"a", "c"} },
		func(i *info.Info) { i.Refs = []string{"b", "a"} },
		func(i *info.Info) { i.Refs = []string{"a", "b", ""} },
		func(i *info.Info) { i.From = "" },
		func(i *info.Info) { i.Signs = nil },
		func(i *info.Info) { i.Signs = []string{"x"} },
		func(i *info.Info) { i.Signs = []string{"x", "z"} },
		func(i *info.Info) { i.Signs = []string{"x", "y", "y"} },
		func(i *info.Info) { i.Refs, i.Signs = i.Signs, i.Refs },
	} {
		other := again
		change(&other)
		if info.Same(one, other) || info.Same(other, one) {
			t.Errorf("change %d isn't seen", k)
		}
	}
}

func TestNothingHandedInIsChanged(t *testing.T) { // P2, rule 4: the spare room too
	r := rand.New(rand.NewSource(5))
	refs := append(paths(3), "spare", "room")
	marks := append(signs(r, 3), "spare", "room")
	oldRefs, oldMarks := slices.Clone(refs), slices.Clone(marks)
	i := info.Info{Path: path("p"), Refs: refs[:3], Signs: marks[:3]}
	info.Check(i)
	info.Print(i)
	info.Fingerprint(i)
	info.Same(i, i)
	if !slices.Equal(refs, oldRefs) || !slices.Equal(marks, oldMarks) || len(i.Signs) != 3 {
		t.Error("what was handed in is changed")
	}
}

// pathError: the error of spath.Parse, which the document names.
func pathError(s string) api.Errno {
	_, _, e := spath.Parse(s)
	return e
}
