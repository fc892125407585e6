package spath_test

import (
	"bytes"
	"crypto/sha256"
	"encoding/hex"
	"math/big"
	"math/rand"
	"regexp"
	"slices"
	"strconv"
	"strings"
	"testing"

	"depot/api"
	"depot/spath"
)

const (
	letters = "0123456789abcdfghijklmnpqrsvwxyz"
	signs   = "ABCDEFGHIJKLMNOPQRSTUVWXYZabcdefghijklmnopqrstuvwxyz0123456789+-._?="
	dir     = "/depot/store/"
)

// labelForm and hashForm are a second reading of P13.1.
var (
	labelForm = regexp.MustCompile(`^[A-Za-z0-9+\-_?=][A-Za-z0-9+\-._?=]{0,210}$`)
	hashForm  = regexp.MustCompile(`^[0-9abcdfghijklmnpqrsvwxyz]{32}$`)
)

func path(label string) string { return dir + letters + "-" + label }

func labelError(s string) api.Errno {
	if strings.HasSuffix(s, "\n") || !labelForm.MatchString(s) {
		return api.ErrName
	}
	return api.OK
}

func hashError(s string) api.Errno {
	if strings.HasSuffix(s, "\n") || !hashForm.MatchString(s) {
		return api.ErrHash
	}
	return api.OK
}

func checkLabel(t *testing.T, s string, want api.Errno) {
	t.Helper()
	if got := spath.CheckLabel(s); got != want {
		t.Errorf("CheckLabel(%q) = %d, not %d", s, got, want)
	}
}

func checkHash(t *testing.T, s string, want api.Errno) {
	t.Helper()
	if got := spath.CheckHash(s); got != want {
		t.Errorf("CheckHash(%q) = %d, not %d", s, got, want)
	}
}

func TestConstants(t *testing.T) {
	if spath.Dir != dir || spath.Letters != 32 {
		t.Error("Dir, Letters")
	}
}

func TestCheckLabel(t *testing.T) { // P13.1
	for _, s := range []string{"a", "Z", "0", "a.b", "+", "-", "_", "?", "=", "a.", "-.", "hello-1.2+x_y?z=3", signs} {
		checkLabel(t, s, api.OK)
	}
	for _, s := range []string{"", ".", "..", ".a", ".a.b", "a b", " a", "a ", "a/b", "/", "a\x00", "a\n", "a:b", "a*", "~"} {
		checkLabel(t, s, api.ErrName)
	}
}

func TestCheckLabelByteByByte(t *testing.T) { // P13.1: each byte, at the beginning, within and at the end
	for i := range 256 {
		c := string([]byte{byte(i)})
		within, first := api.ErrName, api.ErrName
		if strings.Contains(signs, c) {
			within, first = api.OK, api.OK
		}
		if c == "." {
			first = api.ErrName
		}
		checkLabel(t, c, first)
		checkLabel(t, c+"a", first)
		checkLabel(t, "a"+c, within)
		checkLabel(t, "a"+c+"b", within)
		checkLabel(t, strings.Repeat("a", 210)+c, within)
	}
}

func TestCheckLabelLengths(t *testing.T) { // P13.1
	for n := range 300 {
		want := api.OK
		if n == 0 || n > 211 {
			want = api.ErrName
		}
		checkLabel(t, strings.Repeat("a", n), want)
	}
}

func TestCheckLabelBeyondASCII(t *testing.T) { // P13.1: whole letters of more bytes, broken ones, the sign for broken ones
	for _, s := range []string{"ä", "aäb", "\u0430", "日本", "\U0001f600", "\ufffd", "a\ufffd", "a\xc3", "\xa4a", "a\xed\xa0\x80", "\xf8\x80\x80\x80\x80", "\u212a", "\u017f", "\uff21", "\xc1\x81", "\xc0\xae", "a\u0301", "\u0661"} {
		checkLabel(t, s, api.ErrName)
	}
	for r := rune(128); r < 0x3000; r++ { // among them those whose lowest eight bits are a letter's
		checkLabel(t, "a"+string(r), api.ErrName)
	}
}

func TestCheckHash(t *testing.T) { // P13.1
	for _, s := range []string{letters, strings.Repeat("0", 32), strings.Repeat("z", 32)} {
		checkHash(t, s, api.OK)
	}
	for n := range 70 {
		want := api.OK
		if n != 32 {
			want = api.ErrHash
		}
		checkHash(t, strings.Repeat("a", n), want)
	}
	for at := range 32 {
		for i := range 256 {
			c := string([]byte{byte(i)})
			want := api.ErrHash
			if strings.Contains(letters, c) {
				want = api.OK
			}
			checkHash(t, letters[:at]+c+letters[at+1:], want)
		}
	}
	checkHash(t, letters[:30]+"ä", api.ErrHash)
}

// parsed is a second reading of P13.2.
func parsed(path string) (hash, label string, code api.Errno) {
	if len(path) < len(dir) || path[:len(dir)] != dir {
		return "", "", api.ErrPath
	}
	base := path[len(dir):]
	if len(base) < 33 || base[32] != '-' {
		return "", "", api.ErrPath
	}
	if code := hashError(base[:32]); code != 0 {
		return "", "", code
	}
	if code := labelError(base[33:]); code != 0 {
		return "", "", code
	}
	return base[:32], base[33:], api.OK
}

// holdPath asks Parse and Base of a path, and Full of what would be its base.
func holdPath(t *testing.T, path string) {
	t.Helper()
	hash, label, want := parsed(path)
	if h, l, code := spath.Parse(path); h != hash || l != label || code != want {
		t.Errorf("Parse(%q) = %q, %q, %d, not %q, %q, %d", path, h, l, code, hash, label, want)
	}
	base := ""
	if want == api.OK {
		base = hash + "-" + label
	}
	if b, code := spath.Base(path); b != base || code != want {
		t.Errorf("Base(%q) = %q, %d, not %q, %d", path, b, code, base, want)
	}
	if rest, ok := strings.CutPrefix(path, dir); ok {
		whole := ""
		if want == api.OK {
			whole = path
		}
		if f, code := spath.Full(rest); f != whole || code != want {
			t.Errorf("Full(%q) = %q, %d, not %q, %d", rest, f, code, whole, want)
		}
	}
}

func TestParse(t *testing.T) { // P13.2
	rows := []struct {
		path, hash, label string
		code              api.Errno
	}{
		{path("a.b"), letters, "a.b", api.OK},
		{path("-"), letters, "-", api.OK},
		{path("a-b-c"), letters, "a-b-c", api.OK},
		{path(strings.Repeat("x", 211)), letters, strings.Repeat("x", 211), api.OK},
		{dir + strings.Repeat("0", 32) + "-x", strings.Repeat("0", 32), "x", api.OK},

		{"", "", "", api.ErrPath},
		{dir, "", "", api.ErrPath},
		{dir[:12], "", "", api.ErrPath},
		{"/depot/stor/" + letters + "-a", "", "", api.ErrPath},
		{"/Depot/store/" + letters + "-a", "", "", api.ErrPath},
		{"depot/store/" + letters + "-a", "", "", api.ErrPath},
		{"//depot/store/" + letters + "-a", "", "", api.ErrPath},
		{" " + path("a"), "", "", api.ErrPath},
		{letters + "-a", "", "", api.ErrPath},
		{dir + "/" + letters + "-a", "", "", api.ErrPath},
		{dir + letters, "", "", api.ErrPath},
		{dir + letters[:31] + "-", "", "", api.ErrPath},
		{dir + letters[:31] + "-a", "", "", api.ErrPath},
		{dir + letters + "_a", "", "", api.ErrPath},
		{dir + letters + "0-a", "", "", api.ErrPath},
		{dir + strings.Repeat("E", 32) + "_a", "", "", api.ErrPath},
		{dir + letters[:31] + "--a", "", "", api.ErrHash},
		{dir + letters[:31] + "e-a", "", "", api.ErrHash},
		{dir + strings.ToUpper(letters) + "-a", "", "", api.ErrHash},
		{dir + letters[:31] + "e-", "", "", api.ErrHash},
		{dir + letters[:31] + "e-.a", "", "", api.ErrHash},
		{path(""), "", "", api.ErrName},
		{path(".a"), "", "", api.ErrName},
		{path("a/b"), "", "", api.ErrName},
		{path("a\n"), "", "", api.ErrName},
		{path(strings.Repeat("x", 212)), "", "", api.ErrName},
	}
	for _, r := range rows {
		hash, label, code := spath.Parse(r.path)
		if hash != r.hash || label != r.label || code != r.code {
			t.Errorf("Parse(%q) = %q, %q, %d, not %q, %q, %d", r.path, hash, label, code, r.hash, r.label, r.code)
		}
		holdPath(t, r.path)
	}
}

func TestParseOfChangedPaths(t *testing.T) { // P1, P13.2: a byte changed, cut out, put in; the end cut off
	r := rand.New(rand.NewSource(1))
	whole := path("hello-1.2")
	for at := range len(whole) + 1 {
		holdPath(t, whole[:at])
		for _, c := range []byte("-.aeo0/ \x00\xff") {
			holdPath(t, whole[:at]+string([]byte{c})+whole[at:])
			if at < len(whole) {
				holdPath(t, whole[:at]+string([]byte{c})+whole[at+1:])
			}
		}
		if at < len(whole) {
			holdPath(t, whole[:at]+whole[at+1:])
		}
	}
	for range 5000 {
		b := []byte(whole)
		for range r.Intn(3) {
			b[r.Intn(len(b))] = byte(r.Intn(256))
		}
		holdPath(t, string(b))
	}
}

func TestBaseAndFull(t *testing.T) { // P13.2
	if b, code := spath.Base(path("a.b")); b != letters+"-a.b" || code != api.OK {
		t.Errorf("Base = %q, %d", b, code)
	}
	if f, code := spath.Full(letters + "-a.b"); f != path("a.b") || code != api.OK {
		t.Errorf("Full = %q, %d", f, code)
	}
	if f, code := spath.Full(path("a")); f != "" || code != api.ErrPath {
		t.Errorf("Full of a path = %q, %d", f, code)
	}
	for base, want := range map[string]api.Errno{"": api.ErrPath, letters: api.ErrPath, letters[:31] + "u-a": api.ErrHash, letters + "-": api.ErrName, letters + "-.": api.ErrName} {
		if f, code := spath.Full(base); f != "" || code != want {
			t.Errorf("Full(%q) = %q, %d, not %d", base, f, code, want)
		}
		if b, code := spath.Base(dir + base); b != "" || code != want {
			t.Errorf("Base(%q) = %q, %d, not %d", dir+base, b, code, want)
		}
	}
}

// manyRefs: that many store paths, rising.
func manyRefs(n int) []string {
	refs := make([]string, n)
	for i := range refs {
		refs[i] = path(strconv.Itoa(10000 + i))
	}
	return refs
}

func TestCheckRefs(t *testing.T) { // P13.3
	a, b, c := path("a"), path("b"), path("c")
	other := dir + "1" + letters[1:] + "-a"
	rows := []struct {
		refs []string
		code api.Errno
	}{
		{nil, api.OK},
		{[]string{}, api.OK},
		{[]string{a}, api.OK},
		{[]string{a, b}, api.OK},
		{[]string{a, b, c}, api.OK},
		{[]string{c, other}, api.OK},              // the hash counts ahead of the label
		{[]string{path("B"), path("a")}, api.OK},  // by the bytes
		{[]string{path("10"), path("9")}, api.OK}, // not as numbers
		{[]string{a, path("a-"), path("a.")}, api.OK},

		{[]string{a, a}, api.ErrRefs},
		{[]string{b, a}, api.ErrRefs},
		{[]string{a, b, b}, api.ErrRefs},
		{[]string{a, c, b}, api.ErrRefs},
		{[]string{b, c, a}, api.ErrRefs},
		{[]string{other, c}, api.ErrRefs},
		{[]string{""}, api.ErrRefs},
		{[]string{dir + letters}, api.ErrRefs},
		{[]string{path("")}, api.ErrRefs},
		{[]string{path(".a")}, api.ErrRefs},
		{[]string{dir + letters[:31] + "e-a"}, api.ErrRefs},
		{[]string{letters + "-a"}, api.ErrRefs},
		{[]string{"", a}, api.ErrRefs},
		{[]string{a, "b"}, api.ErrRefs},
		{[]string{a, b, path("b/")}, api.ErrRefs},
	}
	for _, r := range rows {
		kept := slices.Clone(r.refs)
		if got := spath.CheckRefs(r.refs); got != r.code {
			t.Errorf("CheckRefs(%q) = %d, not %d", r.refs, got, r.code)
		}
		if !slices.Equal(kept, r.refs) {
			t.Errorf("CheckRefs changed %q to %q", kept, r.refs)
		}
	}
}

func TestCheckRefsOfMany(t *testing.T) { // P13.3: the number is looked at first
	for n, want := range map[int]api.Errno{1023: api.OK, 1024: api.OK, 1025: api.ErrMany, 5000: api.ErrMany} {
		if got := spath.CheckRefs(manyRefs(n)); got != want {
			t.Errorf("CheckRefs of %d = %d, not %d", n, got, want)
		}
	}
	if got := spath.CheckRefs(make([]string, 1024)); got != api.ErrRefs {
		t.Errorf("CheckRefs of 1024 empty texts = %d", got)
	}
	if got := spath.CheckRefs(make([]string, 1025)); got != api.ErrMany {
		t.Errorf("CheckRefs of 1025 empty texts = %d", got)
	}
	last := manyRefs(1024)
	last[1023] = last[1022]
	if got := spath.CheckRefs(last); got != api.ErrRefs {
		t.Errorf("CheckRefs with the last twice = %d", got)
	}
}

// made is a second reading of P13.4: the letters are worked out from the number that the folded bytes are.
func made(refs []string, d api.Digest, label string) string {
	text := "tree"
	for _, ref := range refs {
		text += ":" + ref
	}
	text += ":sha256:" + hex.EncodeToString(d[:]) + ":/depot/store/:" + label
	sum := sha256.Sum256([]byte(text))
	var folded [20]byte
	for i, b := range sum {
		folded[i%20] ^= b
	}
	slices.Reverse(folded[:])
	number := new(big.Int).SetBytes(folded[:])
	hash := ""
	for range 32 {
		low := new(big.Int)
		number.QuoRem(number, big.NewInt(32), low)
		hash = letters[low.Int64():low.Int64()+1] + hash
	}
	return dir + hash + "-" + label
}

func TestMake(t *testing.T) { // P13.4
	d := api.Digest(sha256.Sum256([]byte("x")))
	for _, refs := range [][]string{nil, {}, {path("a")}, {path("a"), path("b")}, manyRefs(1024)} {
		for _, label := range []string{"b", "-", "hello-1.2", strings.Repeat("y", 211)} {
			for _, d := range []api.Digest{{}, d, api.Digest(bytes.Repeat([]byte{255}, 32))} {
				kept := slices.Clone(refs)
				got, code := spath.Make(refs, d, label)
				if want := made(refs, d, label); got != want || code != api.OK {
					t.Errorf("Make(%d refs, %x, %q) = %q, %d, not %q", len(refs), d, label, got, code, want)
				}
				if !slices.Equal(kept, refs) {
					t.Error("Make changed the references")
				}
				if code := spath.CheckRefs([]string{got}); code != api.OK {
					t.Errorf("CheckRefs of what Make answers: %d", code)
				}
			}
		}
	}
}

func TestMakeOfRandom(t *testing.T) { // P13.4
	r := rand.New(rand.NewSource(2))
	for range 300 {
		var d api.Digest
		r.Read(d[:])
		label := make([]byte, 1+r.Intn(20))
		for i := range label {
			label[i] = signs[r.Intn(len(signs))]
		}
		refs := manyRefs(r.Intn(5))
		got, code := spath.Make(refs, d, string(label))
		if want := labelError(string(label)); want != api.OK {
			if got != "" || code != want {
				t.Errorf("Make of the label %q = %q, %d", label, got, code)
			}
		} else if want := made(refs, d, string(label)); got != want || code != api.OK {
			t.Errorf("Make(%q, %x, %q) = %q, %d, not %q", refs, d, label, got, code, want)
		}
	}
}

func TestMakeOfOtherThings(t *testing.T) { // P13.4: the path hangs on all that is told
	first, _ := spath.Make([]string{path("a")}, api.Digest{1}, "b")
	hash, _, _ := spath.Parse(first)
	seen := map[string]string{hash: "the first"}
	rows := []struct {
		what, label string
		refs        []string
		d           api.Digest
	}{
		{"no reference", "b", nil, api.Digest{1}},
		{"another reference", "b", []string{path("c")}, api.Digest{1}},
		{"one reference more", "b", []string{path("a"), path("c")}, api.Digest{1}},
		{"another digest", "b", []string{path("a")}, api.Digest{2}},
		{"another label", "c", []string{path("a")}, api.Digest{1}},
	}
	for _, r := range rows {
		got, code := spath.Make(r.refs, r.d, r.label)
		hash, _, _ := spath.Parse(got)
		if code != api.OK || seen[hash] != "" {
			t.Errorf("%s: %q, %d, as %s", r.what, got, code, seen[hash])
		}
		seen[hash] = r.what
	}
}

func TestMakeRefuses(t *testing.T) { // P13.4: the label first, then the references
	rows := []struct {
		refs  []string
		label string
		code  api.Errno
	}{
		{nil, "", api.ErrName},
		{nil, ".a", api.ErrName},
		{nil, "a b", api.ErrName},
		{nil, strings.Repeat("a", 212), api.ErrName},
		{[]string{"x"}, "", api.ErrName},
		{manyRefs(1025), ".", api.ErrName},
		{manyRefs(1025), "a", api.ErrMany},
		{[]string{"x"}, "a", api.ErrRefs},
		{[]string{path("a"), path("a")}, "b", api.ErrRefs},
		{[]string{path("b"), path("a")}, "b", api.ErrRefs},
	}
	for _, r := range rows {
		if got, code := spath.Make(r.refs, api.Digest{}, r.label); got != "" || code != r.code {
			t.Errorf("Make(%d refs, %q) = %q, %d, not %d", len(r.refs), r.label, got, code, r.code)
		}
	}
}
