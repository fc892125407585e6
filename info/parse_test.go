package info_test

import (
	"math/rand"
	"regexp"
	"slices"
	"strconv"
	"strings"
	"testing"

	"depot/api"
	"depot/info"
	"depot/spath"
)

var numberForm = regexp.MustCompile(`\A(0|[1-9][0-9]*)\z`)

// behind: what stands behind the head, or the error.
func behind(line, head string) (string, api.Errno) {
	if !strings.HasPrefix(line, head) {
		return "", api.ErrLine
	}
	return line[len(head):], api.OK
}

// lineError: a second reading of P15.5 for line n of the text, with the signatures of the lines ahead of it.
func lineError(i *info.Info, n int, line string) api.Errno {
	switch {
	case n == 0:
		rest, e := behind(line, "Path: ")
		if e == api.OK {
			i.Path, e = rest, pathError(rest)
		}
		return e
	case n == 1:
		rest, e := behind(line, "Hash: sha256:")
		if e == api.OK && !digestForm.MatchString(rest) {
			e = api.ErrHash
		}
		if e == api.OK {
			i.Hash = numberOf(rest)
		}
		return e
	case n == 2:
		rest, e := behind(line, "Size: ")
		if e == api.OK && !numberForm.MatchString(rest) {
			e = api.ErrLine
		}
		if e == api.OK {
			n, err := strconv.Atoi(rest)
			if i.Size = n; err != nil || n > 1048576 {
				e = api.ErrSize
			}
		}
		return e
	case n == 3:
		return refsError(i, line)
	case n == 4 && strings.HasPrefix(line, "From: "):
		i.From = line[6:]
		return pathError(i.From)
	}
	rest, e := behind(line, "Sign: ")
	if e == api.OK && (signError(rest) != api.OK || len(i.Signs) > 0 && i.Signs[len(i.Signs)-1] >= rest) {
		e = api.ErrSign
	}
	i.Signs = append(i.Signs, rest)
	return e
}

func refsError(i *info.Info, line string) api.Errno {
	rest, e := behind(line, "Refs:")
	if e != api.OK || rest == "" {
		return e
	}
	if rest[0] != ' ' {
		return api.ErrLine
	}
	for _, piece := range strings.Split(rest[1:], " ") {
		i.Refs = append(i.Refs, dir+piece)
	}
	return spath.CheckRefs(i.Refs)
}

// parsed: a second reading of P15.5.
func parsed(text string) (info.Info, api.Fault) {
	var i info.Info
	lines := strings.SplitAfter(text, "\n")
	if lines[len(lines)-1] == "" {
		lines = lines[:len(lines)-1]
	}
	for n := 0; n < 4 || n < len(lines); n++ {
		if n >= len(lines) || !strings.HasSuffix(lines[n], "\n") {
			return info.Info{}, api.Fault{Code: api.ErrLine, At: n}
		}
		if e := lineError(&i, n, strings.TrimSuffix(lines[n], "\n")); e != api.OK {
			return info.Info{}, api.Fault{Code: e, At: n}
		}
	}
	return i, api.Fault{}
}

// checkParse: does Parse answer what the second reading says? And is there one text for each info?
func checkParse(t *testing.T, text string) api.Fault {
	t.Helper()
	want, wantFault := parsed(text)
	got, fault := info.Parse(text)
	if !info.Same(got, want) || fault != wantFault {
		t.Fatalf("Parse(%.500q) = %v, %v, not %v, %v", text, got, fault, want, wantFault)
	}
	if fault != (api.Fault{}) {
		return fault
	}
	if back, e := info.Print(got); back != text || e != api.OK {
		t.Fatalf("Print of what Parse(%.500q) answered: %.500q, %d", text, back, e)
	}
	return fault
}

// wholeText: an info's text with all kinds of lines.
func wholeText() string {
	return linesOf(info.Info{Path: path("p"), Size: 96, Refs: []string{path("a"), path("b")}, From: path("f"), Signs: []string{sign("a"), sign("b")}})
}

func TestParseReadsWhatPrintWrites(t *testing.T) { // P15.5
	r := rand.New(rand.NewSource(6))
	infos := []info.Info{{Path: path("p")}, {Path: path("p"), Size: 1048576}, {Path: path("p"), Refs: paths(1024)}, {Path: path("p"), Signs: signs(r, 5000)}}
	for range 2000 {
		infos = append(infos, randomInfo(r))
	}
	for _, i := range infos {
		text, _ := info.Print(i)
		if back, f := info.Parse(text); f != (api.Fault{}) || !info.Same(i, back) {
			t.Fatalf("Parse(%.500q) = %v, %v", text, back, f)
		}
		checkParse(t, text)
	}
}

func TestParseWrong(t *testing.T) { // P15.5
	text := wholeText()
	for _, c := range []struct {
		old, new string
		want     api.Fault
	}{
		{text, "", api.Fault{Code: api.ErrLine, At: 0}},
		{text, "\n", api.Fault{Code: api.ErrLine, At: 0}},
		{text, "Path: ", api.Fault{Code: api.ErrLine, At: 0}},
		{text, "Path: \n", api.Fault{Code: api.ErrPath, At: 0}},
		{text, "Path: x", api.Fault{Code: api.ErrLine, At: 0}},
		{"Path: ", "Path:", api.Fault{Code: api.ErrLine, At: 0}},
		{"Path: ", "path: ", api.Fault{Code: api.ErrLine, At: 0}},
		{"Path: ", " Path: ", api.Fault{Code: api.ErrLine, At: 0}},
		{"Path: ", "Path:  ", api.Fault{Code: api.ErrPath, At: 0}},
		{"Path: ", "\nPath: ", api.Fault{Code: api.ErrLine, At: 0}},
		{"-p\n", "-\n", api.Fault{Code: api.ErrName, At: 0}},
		{"-p\n", "-p\r\n", api.Fault{Code: api.ErrName, At: 0}},
		{"-p\n", "-p \n", api.Fault{Code: api.ErrName, At: 0}},
		{"-p\n", "-p\n\n", api.Fault{Code: api.ErrLine, At: 1}},
		{letters, strings.Repeat("e", 32), api.Fault{Code: api.ErrHash, At: 0}},
		{"Hash: sha256:", "Hash: ", api.Fault{Code: api.ErrLine, At: 1}},
		{"Hash: sha256:", "Hash: sha512:", api.Fault{Code: api.ErrLine, At: 1}},
		{"Hash: sha256:", "Hash: sha256: ", api.Fault{Code: api.ErrHash, At: 1}},
		{"sha256:0", "sha256:2", api.Fault{Code: api.ErrHash, At: 1}},
		{"sha256:0", "sha256:", api.Fault{Code: api.ErrHash, At: 1}},
		{"sha256:0", "sha256:00", api.Fault{Code: api.ErrHash, At: 1}},
		{"sha256:0", "sha256:e", api.Fault{Code: api.ErrHash, At: 1}},
		{"sha256:" + noDigest, "sha256:", api.Fault{Code: api.ErrHash, At: 1}},
		{"Size: 96", "Size:96", api.Fault{Code: api.ErrLine, At: 2}},
		{"Size: 96", "Size: ", api.Fault{Code: api.ErrLine, At: 2}},
		{"Size: 96", "Size: 0", api.Fault{}},
		{"Size: 96", "Size: 00", api.Fault{Code: api.ErrLine, At: 2}},
		{"Size: 96", "Size: 007", api.Fault{Code: api.ErrLine, At: 2}},
		{"Size: 96", "Size: 096", api.Fault{Code: api.ErrLine, At: 2}},
		{"Size: 96", "Size: -1", api.Fault{Code: api.ErrLine, At: 2}},
		{"Size: 96", "Size: +1", api.Fault{Code: api.ErrLine, At: 2}},
		{"Size: 96", "Size: 1_0", api.Fault{Code: api.ErrLine, At: 2}},
		{"Size: 96", "Size: 0x1", api.Fault{Code: api.ErrLine, At: 2}},
		{"Size: 96", "Size: 96 ", api.Fault{Code: api.ErrLine, At: 2}},
		{"Size: 96", "Size:  96", api.Fault{Code: api.ErrLine, At: 2}},
		{"Size: 96", "Size: 9/", api.Fault{Code: api.ErrLine, At: 2}},
		{"Size: 96", "Size: 9:", api.Fault{Code: api.ErrLine, At: 2}},
		{"Size: 96", "Size: 1048576", api.Fault{}},
		{"Size: 96", "Size: 1048577", api.Fault{Code: api.ErrSize, At: 2}},
		{"Size: 96", "Size: 1048580", api.Fault{Code: api.ErrSize, At: 2}},
		{"Size: 96", "Size: 10485760", api.Fault{Code: api.ErrSize, At: 2}},
		{"Size: 96", "Size: 10485760x", api.Fault{Code: api.ErrLine, At: 2}},
		{"Size: 96", "Size: 18446744073709551616", api.Fault{Code: api.ErrSize, At: 2}},
		{"Size: 96", "Size: 18446744073709551712", api.Fault{Code: api.ErrSize, At: 2}},
		{"Size: 96", "Size: 1" + strings.Repeat("0", 100000), api.Fault{Code: api.ErrSize, At: 2}},
		{"Size: 96", "Size: 0" + strings.Repeat("9", 100000), api.Fault{Code: api.ErrLine, At: 2}},
		{"Refs: " + base("a") + " " + base("b"), "Refs:", api.Fault{}},
		{"Refs: " + base("a") + " " + base("b"), "Refs: ", api.Fault{Code: api.ErrRefs, At: 3}},
		{"Refs: " + base("a") + " " + base("b"), "Refs:  ", api.Fault{Code: api.ErrRefs, At: 3}},
		{"Refs: " + base("a") + " " + base("b"), "Refs", api.Fault{Code: api.ErrLine, At: 3}},
		{"Refs: " + base("a") + " " + base("b"), "", api.Fault{Code: api.ErrLine, At: 3}},
		{"Refs: " + base("a") + " " + base("b"), " ", api.Fault{Code: api.ErrLine, At: 3}},
		{"Refs: ", "Refs:", api.Fault{Code: api.ErrLine, At: 3}},
		{"Refs: ", "Refs:\t", api.Fault{Code: api.ErrLine, At: 3}},
		{"Refs: ", "refs: ", api.Fault{Code: api.ErrLine, At: 3}},
		{"Refs: ", "Refs:  ", api.Fault{Code: api.ErrRefs, At: 3}},
		{"Refs: ", "Refs: " + dir, api.Fault{Code: api.ErrRefs, At: 3}},
		{" " + base("b"), "  " + base("b"), api.Fault{Code: api.ErrRefs, At: 3}},
		{" " + base("b"), " " + base("b") + " ", api.Fault{Code: api.ErrRefs, At: 3}},
		{" " + base("b"), "," + base("b"), api.Fault{Code: api.ErrRefs, At: 3}},
		{" " + base("b"), " " + base("a"), api.Fault{Code: api.ErrRefs, At: 3}},
		{" " + base("b"), " " + base("A"), api.Fault{Code: api.ErrRefs, At: 3}},
		{" " + base("b"), "", api.Fault{}},
		{"From: " + path("f") + "\n", "", api.Fault{}},
		{"From: " + path("f"), "From: ", api.Fault{Code: api.ErrPath, At: 4}},
		{"From: " + path("f"), "From: " + base("f"), api.Fault{Code: api.ErrPath, At: 4}},
		{"From: " + path("f"), "From: " + path(".f"), api.Fault{Code: api.ErrName, At: 4}},
		{"From: " + path("f"), "From: " + path("f") + "\nFrom: " + path("f"), api.Fault{Code: api.ErrLine, At: 5}},
		{"From: " + path("f"), "Sign: " + sign("9") + "\nFrom: " + path("f"), api.Fault{Code: api.ErrLine, At: 5}},
		{"From: ", "From:", api.Fault{Code: api.ErrLine, At: 4}},
		{"From: ", "from: ", api.Fault{Code: api.ErrLine, At: 4}},
		{"From: ", "Sign: ", api.Fault{Code: api.ErrSign, At: 4}},
		{"From: ", "Path: ", api.Fault{Code: api.ErrLine, At: 4}},
		{"From: ", "\nFrom: ", api.Fault{Code: api.ErrLine, At: 4}},
		{"Sign: a", "Sign:a", api.Fault{Code: api.ErrLine, At: 5}},
		{"Sign: a", "sign: a", api.Fault{Code: api.ErrLine, At: 5}},
		{"Sign: a", "Sign: A", api.Fault{Code: api.ErrSign, At: 5}},
		{"Sign: a", "Sign:  a", api.Fault{Code: api.ErrSign, At: 5}},
		{"Sign: a:0", "Sign: a:2", api.Fault{Code: api.ErrSign, At: 5}},
		{"Sign: a:0", "Sign: a:", api.Fault{Code: api.ErrSign, At: 5}},
		{"Sign: a:", "Sign: b:", api.Fault{Code: api.ErrSign, At: 6}},
		{"Sign: a:", "Sign: c:", api.Fault{Code: api.ErrSign, At: 6}},
		{"Sign: a:" + noDigest, "Sign: ", api.Fault{Code: api.ErrSign, At: 5}},
		{"Sign: a:" + noDigest, "", api.Fault{Code: api.ErrLine, At: 5}},
		{"Sign: b:" + noDigest + "\n", "Sign: b:" + noDigest + "\n\n", api.Fault{Code: api.ErrLine, At: 7}},
		{"Sign: b:" + noDigest + "\n", "Sign: b:" + noDigest + "\n ", api.Fault{Code: api.ErrLine, At: 7}},
		{"Sign: b:" + noDigest + "\n", "Sign: b:" + noDigest, api.Fault{Code: api.ErrLine, At: 6}},
		{"Sign: b:" + noDigest + "\n", "Sign: b:" + noDigest + "\r\n", api.Fault{Code: api.ErrSign, At: 6}},
		{"\n", "\r", api.Fault{Code: api.ErrName, At: 0}},
	} {
		changed := strings.Replace(text, c.old, c.new, 1)
		if changed == text {
			t.Fatalf("%q isn't there", c.old)
		}
		if f := checkParse(t, changed); f != c.want {
			t.Errorf("%.100q for %q: %v, not %v", c.new, c.old, f, c.want)
		}
	}
}

func TestParseInOrder(t *testing.T) { // P15.5: the first line with something wrong, and the first thing wrong with it
	lines := []string{"Path: x\n", "Hash: sha256:x\n", "Size: x\n", "Refs: x\n", "From: x\n", "Sign: x\n"}
	right := strings.SplitAfter(wholeText(), "\n")
	codes := []api.Errno{api.ErrPath, api.ErrHash, api.ErrLine, api.ErrRefs, api.ErrPath, api.ErrSign}
	for n := range lines {
		text := strings.Join(right[:n], "") + strings.Join(lines[n:], "")
		if f := checkParse(t, text); f != (api.Fault{Code: codes[n], At: n}) {
			t.Errorf("from line %d on all wrong: %v", n, f)
		}
		noEnd := strings.Join(right[:n], "") + strings.TrimSuffix(lines[n], "\n")
		if f := checkParse(t, noEnd); f != (api.Fault{Code: api.ErrLine, At: n}) {
			t.Errorf("line %d wrong and without a line end: %v", n, f)
		}
	}
}

func TestParseManyRefs(t *testing.T) { // P15.5: as many references as may be, and more
	line := func(n int) string {
		return "Path: " + path("p") + "\nHash: sha256:" + noDigest + "\nSize: 0\nRefs: " + letters + "-" + strings.Join(labels(n), " "+letters+"-") + "\n"
	}
	for _, n := range []int{1, 2, 1023, 1024} {
		if i, f := info.Parse(line(n)); f != (api.Fault{}) || !slices.Equal(i.Refs, paths(n)) {
			t.Errorf("%d references: %v", n, f)
		}
	}
	for _, n := range []int{1025, 1026, 5000} {
		if f := checkParse(t, line(n)); f != (api.Fault{Code: api.ErrMany, At: 3}) {
			t.Errorf("%d references: %v", n, f)
		}
	}
	head, _, _ := strings.Cut(line(1), letters+"-1")
	for _, blanks := range []int{0, 1, 1022, 1023} {
		if f := checkParse(t, head+strings.Repeat(" ", blanks)+"\n"); f != (api.Fault{Code: api.ErrRefs, At: 3}) {
			t.Errorf("%d blanks: %v", blanks, f)
		}
	}
	for _, blanks := range []int{1024, 1025, 1000000} {
		if f := checkParse(t, head+strings.Repeat(" ", blanks)+"\n"); f != (api.Fault{Code: api.ErrMany, At: 3}) {
			t.Errorf("%d blanks: %v", blanks, f)
		}
	}
}

func TestParseCutAnywhere(t *testing.T) { // P15.5: a text's beginning
	text := wholeText()
	whole := 0
	for n := range len(text) + 1 {
		if checkParse(t, text[:n]) == (api.Fault{}) {
			whole++
		}
		checkParse(t, text[n:])
	}
	if whole != 4 { // behind Refs, From and the two signatures
		t.Errorf("%d beginnings are infos", whole)
	}
}

func TestParseByteByByte(t *testing.T) { // P15.5: each byte changed, gone, or there twice
	text := wholeText()
	for n := range len(text) {
		checkParse(t, text[:n]+text[n+1:])
		checkParse(t, text[:n]+text[n:n+1]+text[n:])
		for b := range 256 {
			checkParse(t, text[:n]+string([]byte{byte(b)})+text[n+1:])
		}
	}
}

func TestParseLinesMixed(t *testing.T) { // P15.5: right and wrong lines in any order
	r := rand.New(rand.NewSource(7))
	lines := append(strings.SplitAfter(wholeText(), "\n"), "\n", " \n", "Refs:\n", "Refs: \n", "Size: 1048577\n", "From: \n", "Sign: "+sign("c")+"\n", "Sign: "+sign("a")+"\n", "Sign: \n")
	for range 20000 {
		n := r.Intn(9)
		text := strings.Join(lines[:min(n, 7)], "")
		for range r.Intn(4) {
			text += lines[r.Intn(len(lines))]
		}
		checkParse(t, text)
	}
}

func TestParseSharesNothing(t *testing.T) { // P2, rule 4
	text := linesOf(info.Info{Path: path("p"), Refs: paths(3), Signs: signs(rand.New(rand.NewSource(8)), 3)})
	one, _ := info.Parse(text)
	two, _ := info.Parse(text)
	spoil := func(list []string) {
		list = list[:cap(list)]
		for i := range list {
			list[i] = "spoilt"
		}
	}
	spoil(one.Refs)
	if slices.Contains(one.Signs, "spoilt") || slices.Contains(two.Refs, "spoilt") || slices.Contains(two.Signs, "spoilt") {
		t.Error("references are shared")
	}
	spoil(one.Signs)
	if slices.Contains(two.Refs, "spoilt") || slices.Contains(two.Signs, "spoilt") {
		t.Error("signatures are shared")
	}
	again, f := info.Parse(text)
	if f != (api.Fault{}) || !info.Same(again, two) {
		t.Error("an earlier answer is kept")
	}
}
