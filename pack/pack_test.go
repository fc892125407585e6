package pack_test

import (
	"encoding/binary"
	"math"
	"math/rand"
	"strings"
	"testing"

	"depot/api"
	"depot/nar"
	"depot/pack"
)

func fault(code api.Errno, at int) api.Fault { return api.Fault{Code: code, At: at} }

func length(n uint64) string { return string(binary.LittleEndian.AppendUint64(nil, n)) }

// plain: a token that holds 1 to 128 bytes as they are.
func plain(s string) string { return string([]byte{byte(len(s) - 1)}) + s }

// back: a token that points back by far bytes for n bytes.
func back(n, far int) string {
	return string([]byte{byte(n + 124), byte((far - 1) % 256), byte((far - 1) / 256)})
}

// packed: the text packed by the document's words, place by place.
func packed(s string) string {
	out, asItIs := length(uint64(len(s))), ""
	write := func() {
		for len(asItIs) > 128 {
			out += plain(asItIs[:128])
			asItIs = asItIs[128:]
		}
		if asItIs != "" {
			out += plain(asItIs)
		}
		asItIs = ""
	}
	for i := 0; i < len(s); {
		c := -1
		if len(s)-i >= 4 {
			for c = i - 1; c >= max(i-65536, 0) && s[c:c+4] != s[i:i+4]; c-- {
			}
		}
		if c < 0 || i-c > 65536 {
			asItIs += s[i : i+1]
			i++
			continue
		}
		n := 0
		for n < 131 && i+n < len(s) && s[c+n] == s[i+n] {
			n++
		}
		write()
		out += back(n, i-c)
		i += n
	}
	write()
	return out
}

// unlike: bytes of which no four stand twice, by numbers in three digits of base 64 and a mark ahead of each.
func unlike(n int) string {
	var b strings.Builder
	for i := 0; b.Len() < n; i++ {
		b.Write([]byte{0, byte(1 + i%64), byte(65 + i/64%64), byte(129 + i/4096)})
	}
	return b.String()[:n]
}

func TestPack(t *testing.T) { // P10.1, P10.2
	a := func(n int) string { return strings.Repeat("a", n) }
	rows := []struct{ text, tokens string }{
		{"", ""},
		{"a", plain("a")},
		{"aaaa", plain("aaaa")},
		{"aaaaa", plain("a") + back(4, 1)},
		{"aaaaaaaa", plain("a") + back(7, 1)},
		{"abcdabcd", plain("abcd") + back(4, 4)},
		{"abcdabc", plain("abcdabc")},
		{"abcdabcx", plain("abcdabcx")},
		{"abcdXabcdY", plain("abcdX") + back(4, 5) + plain("Y")},
		{"abcdeXabcdeYabcdZ", plain("abcdeX") + back(5, 6) + plain("Y") + back(4, 6) + plain("Z")},
		{"abababab", plain("ab") + back(6, 2)},
		{"abcabcabc", plain("abc") + back(6, 3)},
		{"abcdbcdabcdb", plain("abcdbcd") + back(5, 7)},
		{"abcd1abcd2abcd1", plain("abcd1") + back(4, 5) + plain("2") + back(4, 5) + plain("1")}, // the last place, not the best
		{a(132), plain("a") + back(131, 1)},
		{a(133), plain("a") + back(131, 1) + plain("a")},
		{a(135), plain("a") + back(131, 1) + plain("aaa")},
		{a(136), plain("a") + back(131, 1) + back(4, 1)},
		{a(263), plain("a") + back(131, 1) + back(131, 1)},
		{unlike(127), plain(unlike(127))},
		{unlike(128), plain(unlike(128))},
		{unlike(129), plain(unlike(128)) + plain(unlike(129)[128:])},
		{unlike(256), plain(unlike(128)) + plain(unlike(256)[128:])},
		{unlike(257), plain(unlike(128)) + plain(unlike(256)[128:]) + plain(unlike(257)[256:])},
		{unlike(200) + unlike(200), plain(unlike(128)) + plain(unlike(200)[128:]) + back(131, 200) + back(69, 200)},
		{"\x00\x00\x00\x00\x00\xff\xff\xff\xff\xff", plain("\x00") + back(4, 1) + plain("\xff") + back(4, 1)},
	}
	for _, r := range rows {
		if got, code := pack.Pack(r.text); code != api.OK || got != length(uint64(len(r.text)))+r.tokens {
			t.Errorf("Pack(%q) = %q, %d", r.text, got, code)
		}
	}
	if got, _ := pack.Pack("aaaaaaaa"); got != "\x08\x00\x00\x00\x00\x00\x00\x00\x00a\x83\x00\x00" {
		t.Errorf("Pack(aaaaaaaa) = %q", got)
	}
}

func TestPackFromAfar(t *testing.T) { // P10.1, P10.2
	for _, far := range []int{255, 256, 257, 511, 512, 513, 65535, 65536, 65537, 65792, 131072} {
		text := unlike(far) + "\x00\x01\x41\x81" // as at the beginning
		want := length(uint64(far + 4))
		rest := text[:far]
		end := back(4, min(far, 65536))
		if far > 65536 {
			rest, end = text, ""
		}
		for len(rest) > 128 {
			want += plain(rest[:128])
			rest = rest[128:]
		}
		want += plain(rest) + end
		if got, code := pack.Pack(text); code != api.OK || got != want {
			t.Errorf("by %d: % x .. %d", far, got[len(got)-12:], code)
		}
		if got, f := pack.Unpack(want); got != text || f != (api.Fault{}) {
			t.Errorf("by %d: %v", far, f)
		}
	}
}

func TestPackPointsAtTheLastPlaceOnly(t *testing.T) { // P10.2
	// The last place stands within what a token has just pointed back at.
	text := "0123456789" + "x" + "0123456789" + "4567"
	want := length(25) + plain("0123456789x") + back(10, 11) + back(4, 6)
	if got, _ := pack.Pack(text); got != want {
		t.Errorf("%q", got)
	}
}

// someText: a text in which much stands twice.
func someText(r *rand.Rand, n int) string {
	var b []byte
	letters := 1 + r.Intn(5)
	for len(b) < n {
		switch {
		case r.Intn(3) > 0 || len(b) == 0:
			b = append(b, byte('a'+r.Intn(letters)))
		case r.Intn(4) == 0:
			for range r.Intn(150) {
				b = append(b, byte(r.Intn(256)))
			}
		default:
			from := r.Intn(len(b))
			for range r.Intn(150) {
				b = append(b, b[from])
				from++
			}
		}
	}
	return string(b[:n])
}

func TestPackOfRandomTexts(t *testing.T) { // P10.2, P10.4
	r := rand.New(rand.NewSource(102))
	for range 3000 {
		text := someText(r, r.Intn(600))
		got, code := pack.Pack(text)
		if code != api.OK || got != packed(text) {
			t.Fatalf("Pack(%q) = %q, %d, not %q", text, got, code, packed(text))
		}
		if back, f := pack.Unpack(got); back != text || f != (api.Fault{}) {
			t.Fatalf("Unpack(%q) = %q, %v", got, back, f)
		}
	}
}

func TestPackOfLongTexts(t *testing.T) { // P10.2, P10.4
	r := rand.New(rand.NewSource(103))
	for _, text := range []string{someText(r, 20000), strings.Repeat(someText(r, 15000), 5)} {
		if got, _ := pack.Pack(text); got != packed(text) {
			t.Errorf("a text of %d bytes", len(text))
		}
	}
	for _, text := range []string{strings.Repeat("x", api.MaxArchive), someText(r, api.MaxArchive)} {
		got, code := pack.Pack(text)
		if back, f := pack.Unpack(got); code != api.OK || back != text || f != (api.Fault{}) {
			t.Errorf("the longest: %d, %v", code, f)
		}
	}
	for _, n := range []int{api.MaxArchive + 1, 2 * api.MaxArchive} {
		if got, code := pack.Pack(strings.Repeat("x", n)); code != api.ErrBig || got != "" {
			t.Errorf("of %d bytes: %d", n, code)
		}
	}
}

func TestPackOfArchives(t *testing.T) { // P10.2, P10.4
	n := api.Node{Kind: api.Dir}
	for _, s := range []string{"a", "b", "c"} {
		n.Kids = append(n.Kids, api.Entry{Name: s, Node: api.Node{Kind: api.File, Text: "some contents"}})
	}
	archive, _ := nar.Serial(n)
	got, _ := pack.Pack(archive)
	if got != packed(archive) || len(got) >= len(archive)/2 {
		t.Errorf("%d bytes of %d", len(got), len(archive))
	}
	if back, f := pack.Unpack(got); back != archive || f != (api.Fault{}) {
		t.Errorf("Unpack: %v", f)
	}
}

func TestShare(t *testing.T) { // P10.5
	rows := []struct {
		plain, packed int
		want          float64
		code          api.Errno
	}{
		{8, 2, 0.25, api.OK},
		{2, 8, 4, api.OK},
		{3, 1, 1.0 / 3, api.OK},
		{1, 0, 0, api.OK},
		{math.MaxInt, math.MaxInt, 1, api.OK},
		{1, math.MaxInt, 1 << 63, api.OK},
		{0, 0, 0, api.ErrZero},
		{0, 2, 0, api.ErrZero},
		{-1, 2, 0, api.ErrRange},
		{2, -1, 0, api.ErrRange},
		{0, -1, 0, api.ErrRange},
		{-1, 0, 0, api.ErrRange},
		{math.MinInt, math.MinInt, 0, api.ErrRange},
	}
	for _, r := range rows {
		got, code := pack.Share(r.plain, r.packed)
		if got != r.want || code != r.code || math.Signbit(got) {
			t.Errorf("Share(%d, %d) = %v, %d", r.plain, r.packed, got, code)
		}
	}
}
