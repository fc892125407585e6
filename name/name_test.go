package name_test

import (
	"bytes"
	"math/rand"
	"slices"
	"strings"
	"testing"

	"depot/api"
	"depot/name"
)

func fault(code api.Errno, at int) api.Fault { return api.Fault{Code: code, At: at} }

// texts: all texts of at most most bytes of those letters.
func texts(letters string, most int) []string {
	all := []string{""}
	for from := 0; most > 0; most-- {
		to := len(all)
		for _, s := range all[from:to] {
			for i := range len(letters) {
				all = append(all, s+letters[i:i+1])
			}
		}
		from = to
	}
	return all
}

func TestCheck(t *testing.T) { // P5.1
	n255, n256 := strings.Repeat("n", 255), strings.Repeat("n", 256)
	rows := []struct {
		s    string
		want api.Errno
	}{
		{"", api.ErrEmpty},
		{"a", api.OK}, {" ", api.OK}, {"\n", api.OK}, {"\xff\xfe", api.OK}, {"é", api.OK}, {"\\", api.OK}, {"*?", api.OK},
		{".", api.ErrDots}, {"..", api.ErrDots}, {"...", api.OK}, {"....", api.OK},
		{".a", api.OK}, {"a.", api.OK}, {"..a", api.OK}, {"a..", api.OK}, {". ", api.OK},
		{"/", api.ErrByte}, {"a/", api.ErrByte}, {"/a", api.ErrByte}, {"a/b", api.ErrByte}, {"./", api.ErrByte}, {"../", api.ErrByte}, {"./..", api.ErrByte},
		{"\x00", api.ErrByte}, {"a\x00", api.ErrByte}, {"\x00a", api.ErrByte}, {"..\x00", api.ErrByte}, {"\xff\x00", api.ErrByte}, {"\xff/", api.ErrByte},
		{n255, api.OK}, {n256, api.ErrLong}, {n256 + n256, api.ErrLong},
		{n255[1:] + "/", api.ErrByte}, {"\x00" + n255[1:], api.ErrByte},
		{n255 + "/", api.ErrLong}, {"/" + n255, api.ErrLong}, {n255 + "\x00", api.ErrLong},
		{strings.Repeat(".", 255), api.OK}, {strings.Repeat("é", 127), api.OK}, {strings.Repeat("é", 128), api.ErrLong},
	}
	for _, r := range rows {
		if got := name.Check(r.s); got != r.want {
			t.Errorf("Check(%q) = %d, not %d", r.s, got, r.want)
		}
	}
	for b := range 256 {
		want := map[byte]api.Errno{'/': api.ErrByte, 0: api.ErrByte}[byte(b)]
		for _, s := range []string{"a" + string([]byte{byte(b)}), string([]byte{byte(b)}) + "long enough, and more"} {
			if got := name.Check(s); got != want {
				t.Errorf("Check(%q) = %d, not %d", s, got, want)
			}
		}
	}
}

func TestCompare(t *testing.T) { // P5.2
	all := append(texts("\x00a\xff", 3), "/", "a/", "é", "z")
	for _, a := range all {
		for _, b := range all {
			if got := name.Compare(a, b); got != bytes.Compare([]byte(a), []byte(b)) {
				t.Errorf("Compare(%q, %q) = %d", a, b, got)
			}
		}
	}
	if name.Compare("a", "ab") != -1 || name.Compare("ab", "a") != 1 || name.Compare("\x7f", "\x80") != -1 || name.Compare("", "") != 0 {
		t.Error("Compare")
	}
}

func TestSorted(t *testing.T) { // P5.2
	rows := []struct {
		names []string
		want  int
	}{
		{nil, -1}, {[]string{}, -1}, {[]string{""}, -1}, {[]string{"z"}, -1},
		{[]string{"a", "b", "c"}, -1}, {[]string{"", "a", "aa", "b"}, -1}, {[]string{"a/", "a/b"}, -1},
		{[]string{"a", "a"}, 1}, {[]string{"", ""}, 1}, {[]string{"b", "a"}, 1},
		{[]string{"a", "b", "b"}, 2}, {[]string{"a", "c", "b", "a"}, 2}, {[]string{"a", "b", "c", "a"}, 3},
		{[]string{"b", "a", "c", "c"}, 1}, {[]string{"\x7f", "\x80", "\xff"}, -1}, {[]string{"\x80", "\x7f"}, 1},
	}
	for _, r := range rows {
		kept := slices.Clone(r.names)
		if got := name.Sorted(r.names); got != r.want {
			t.Errorf("Sorted(%q) = %d, not %d", r.names, got, r.want)
		}
		if !slices.Equal(kept, r.names) {
			t.Errorf("Sorted changed %q to %q", kept, r.names)
		}
	}
}

// splitStory cuts the path byte by byte, as the document tells it.
func splitStory(path string) ([]string, api.Fault) {
	if path == "" {
		return nil, api.Fault{}
	}
	var names []string
	start := 0
	for i := 0; i <= len(path); i++ {
		if i < len(path) && path[i] != '/' {
			continue
		}
		if len(names) == api.MaxDepth-1 {
			return nil, fault(api.ErrDeep, start)
		}
		if code := name.Check(path[start:i]); code != api.OK {
			return nil, fault(code, start)
		}
		names = append(names, path[start:i])
		start = i + 1
	}
	return names, api.Fault{}
}

func checkSplit(t *testing.T, path string) {
	t.Helper()
	want, wantFault := splitStory(path)
	got, f := name.Split(path)
	if f != wantFault || !slices.Equal(got, want) {
		t.Errorf("Split(%q) = %q, %v, not %q, %v", path, got, f, want, wantFault)
	}
	if f.Code != api.OK {
		return
	}
	if back, f := name.Join(got); back != path || f != (api.Fault{}) {
		t.Errorf("Join(%q) = %q, %v", got, back, f)
	}
}

func TestSplit(t *testing.T) { // P5.3
	rows := []struct {
		path string
		want []string
		f    api.Fault
	}{
		{"", nil, api.Fault{}},
		{"a", []string{"a"}, api.Fault{}},
		{"a/b.c", []string{"a", "b.c"}, api.Fault{}},
		{"a//b", nil, fault(api.ErrEmpty, 2)},
		{"/a", nil, fault(api.ErrEmpty, 0)},
		{"/", nil, fault(api.ErrEmpty, 0)},
		{"a/", nil, fault(api.ErrEmpty, 2)},
		{"a/../b", nil, fault(api.ErrDots, 2)},
		{"ab/.", nil, fault(api.ErrDots, 3)},
		{"ab/c\x00/..", nil, fault(api.ErrByte, 3)},
		{"ab/" + strings.Repeat("n", 256) + "/", nil, fault(api.ErrLong, 3)},
		{"ab/" + strings.Repeat("n", 255), []string{"ab", strings.Repeat("n", 255)}, api.Fault{}},
		{strings.Repeat("a/", 30) + "a", slices.Repeat([]string{"a"}, 31), api.Fault{}},
		{strings.Repeat("a/", 31) + "a", nil, fault(api.ErrDeep, 62)},
		{strings.Repeat("a/", 31), nil, fault(api.ErrDeep, 62)},
		{strings.Repeat("a/", 31) + "../\x00", nil, fault(api.ErrDeep, 62)},
		{strings.Repeat("a/", 30), nil, fault(api.ErrEmpty, 60)},
		{strings.Repeat("a/", 30) + "../a", nil, fault(api.ErrDots, 60)},
		{strings.Repeat("a/", 60) + "a", nil, fault(api.ErrDeep, 62)},
		{"." + strings.Repeat("/a", 60), nil, fault(api.ErrDots, 0)},
	}
	for _, r := range rows {
		if got, f := name.Split(r.path); f != r.f || !slices.Equal(got, r.want) {
			t.Errorf("Split(%q) = %q, %v", r.path, got, f)
		}
	}
	for _, path := range texts("a./\x00", 6) {
		checkSplit(t, path)
		checkSplit(t, strings.Repeat("bc/", 28)+path)
	}
	checkSplit(t, strings.Repeat("/", 1<<20))
	checkSplit(t, strings.Repeat("a/", 1<<20))
}

func TestJoin(t *testing.T) { // P5.3
	long := strings.Repeat("n", 256)
	rows := []struct {
		names []string
		want  string
		f     api.Fault
	}{
		{nil, "", api.Fault{}},
		{[]string{"a"}, "a", api.Fault{}},
		{[]string{"a", "b.c", "..."}, "a/b.c/...", api.Fault{}},
		{[]string{""}, "", fault(api.ErrEmpty, 0)},
		{[]string{"a", ""}, "", fault(api.ErrEmpty, 1)},
		{[]string{"a", "b", "c/d", "", ".."}, "", fault(api.ErrByte, 2)},
		{[]string{"a", "\x00"}, "", fault(api.ErrByte, 1)},
		{[]string{".", "/"}, "", fault(api.ErrDots, 0)},
		{[]string{"a", "a", long}, "", fault(api.ErrLong, 2)},
		{slices.Repeat([]string{"a"}, 31), strings.Repeat("a/", 30) + "a", api.Fault{}},
		{slices.Repeat([]string{long[1:]}, 31), strings.Repeat(long[1:]+"/", 30) + long[1:], api.Fault{}},
		{slices.Repeat([]string{"a"}, 32), "", fault(api.ErrDeep, 31)},
		{slices.Repeat([]string{"a"}, 100), "", fault(api.ErrDeep, 31)},
		{append(slices.Repeat([]string{"a"}, 31), ""), "", fault(api.ErrDeep, 31)},
		{append(slices.Repeat([]string{"a"}, 30), "", "a"), "", fault(api.ErrEmpty, 30)},
	}
	for _, r := range rows {
		kept := slices.Clone(r.names)
		if got, f := name.Join(r.names); got != r.want || f != r.f {
			t.Errorf("Join(%q) = %q, %v", r.names, got, f)
		}
		if !slices.Equal(kept, r.names) {
			t.Errorf("Join changed %q to %q", kept, r.names)
		}
	}
}

func TestSplitAnswersNewMemory(t *testing.T) { // rule 4
	a, _ := name.Split("a/b/c")
	b, _ := name.Split("a/b/c")
	a = append(a[:1], "x", "y")
	if !slices.Equal(b, []string{"a", "b", "c"}) || len(a) != 3 {
		t.Errorf("%q, %q", a, b)
	}
}

func TestUnder(t *testing.T) { // P5.4
	rows := []struct {
		path, top string
		want      bool
	}{
		{"", "", true}, {"x", "", true}, {"/", "", true}, {"a//b", "", true},
		{"a", "a", true}, {"a/b", "a", true}, {"a/b", "a/b", true}, {"a/b/c", "a/b", true},
		{"ab", "a", false}, {"a", "ab", false}, {"a", "a/b", false}, {"", "a", false}, {"b/a", "a", false}, {"a/bc", "a/b", false},
		{"a/", "a", true}, {"a//", "a", true}, {"a", "a/", false}, {"a/b", "a/", false}, {"a//b", "a/", true}, {"a/", "a/", true},
		{"/", "/", true}, {"//", "/", true}, {"/a", "/", false}, {"a\x00", "a", false}, {"a\x00/b", "a\x00", true}, {"\xff/", "\xff", true},
	}
	for _, r := range rows {
		if got := name.Under(r.path, r.top); got != r.want {
			t.Errorf("Under(%q, %q) = %v", r.path, r.top, got)
		}
	}
}

// fits tries everything that the pattern's first byte may fit.
func fits(pattern, s string) bool {
	switch {
	case pattern == "":
		return s == ""
	case pattern[0] == '*':
		return fits(pattern[1:], s) || s != "" && fits(pattern, s[1:])
	case s == "":
		return false
	}
	return (pattern[0] == '?' || pattern[0] == s[0]) && fits(pattern[1:], s[1:])
}

func TestMatch(t *testing.T) { // P5.5
	rows := []struct {
		pattern, s string
		want       bool
	}{
		{"", "", true}, {"", "a", false}, {"a", "", false}, {"a*?", "abc", true}, {"a*?", "a", false},
		{"*", "", true}, {"***", "", true}, {"?", "", false}, {"?", "a", true}, {"?", "ab", false}, {"*", "any/\x00\xff", true},
		{"?", "é", false}, {"??", "é", true}, {"?", "\xff", true}, {"?", "/", true}, {"?", "\x00", true}, {"\x00", "\x00", true},
		{"*.go", "a.go", true}, {"*.go", ".go", true}, {"*.go", "a.goo", false}, {"*.go", "a.go.go", true}, {"*.go", "ago", false},
		{"a*b*c", "abc", true}, {"a*b*c", "axxbyyc", true}, {"a*b*c", "axxbyy", false}, {"a*b*c", "acb", false},
		{"*ab", "aab", true}, {"*aab*", "aaaab", true}, {"*a*b*", "xaxxbx", true}, {"*ab?", "ababab", false}, {"*ab?", "abababc", true},
		{"[a]", "a", false}, {"[a]", "[a]", true}, {"\\*", "*", false}, {"\\*", "\\x", true}, {"A", "a", false},
		{"*", "*", true}, {"?", "*", true}, {"a", "*", false}, {"a", "?", false}, {"?*", "*", true}, {"*?", "", false},
	}
	for _, r := range rows {
		if got := name.Match(r.pattern, r.s); got != r.want {
			t.Errorf("Match(%q, %q) = %v", r.pattern, r.s, got)
		}
	}
	subjects := append(texts("ab", 7), texts("a*?", 4)...)
	for _, pattern := range texts("ab*?", 5) {
		for _, s := range subjects {
			if got := name.Match(pattern, s); got != fits(pattern, s) {
				t.Fatalf("Match(%q, %q) = %v", pattern, s, got)
			}
		}
	}
}

func TestMatchOfRandomTexts(t *testing.T) { // P5.5
	r := rand.New(rand.NewSource(5))
	pick := func(letters string, n int) string {
		out := make([]byte, n)
		for i := range out {
			out[i] = letters[r.Intn(len(letters))]
		}
		return string(out)
	}
	for range 20000 {
		pattern, s := pick("aab**?", r.Intn(12)), pick("aab", r.Intn(16))
		if got := name.Match(pattern, s); got != fits(pattern, s) {
			t.Fatalf("Match(%q, %q) = %v", pattern, s, got)
		}
	}
}

func TestMatchOfManyStars(t *testing.T) { // P1: trying all that each star may fit would not end in time
	s := strings.Repeat("a", 20000)
	if name.Match(strings.Repeat("a*", 2000)+"b", s) || !name.Match(strings.Repeat("a*", 2000)+"a", s) || name.Match("*"+s[:5000]+"b", s) {
		t.Error("Match")
	}
}
