package scan_test

import (
	"bytes"
	"math/rand"
	"slices"
	"strings"
	"testing"

	"depot/api"
	"depot/scan"
)

const letters = "0123456789abcdfghijklmnpqrsvwxyz"

var ones = strings.Repeat("1", 32)

// wrongHashes: none of them is a hash.
func wrongHashes() []string {
	return []string{"", "e", "1", letters[:31], letters + "0", letters[:31] + "e", "u" + letters[1:], strings.ToUpper(letters), letters[:30] + "ä", letters[:31] + "\x00", "-" + letters[1:], letters + "-a", "/depot/store/" + letters + "-a"}
}

// hashes that share beginnings and ends, so that they overlap wherever they can.
func overlapping() []string {
	return []string{
		ones,
		strings.Repeat("1", 31) + "2",
		"2" + strings.Repeat("1", 31),
		strings.Repeat("12", 16),
		strings.Repeat("21", 16),
		strings.Repeat("1", 16) + strings.Repeat("2", 16),
		strings.Repeat("0", 32),
		letters,
		letters[16:] + letters[:16],
	}
}

// randomText: hashes, parts of hashes, letters that go on, and bytes that are none.
func randomText(r *rand.Rand, hashes []string) string {
	var b strings.Builder
	for range r.Intn(8) {
		h := hashes[r.Intn(len(hashes))]
		switch r.Intn(7) {
		case 0, 1:
			b.WriteString(h)
		case 2:
			b.WriteString(h[r.Intn(33):])
		case 3:
			b.WriteString(h[:r.Intn(33)])
		case 4:
			b.WriteString(strings.Repeat("1", r.Intn(70)))
		case 5:
			b.WriteByte(byte(r.Intn(256)))
		case 6:
			b.WriteString("e-"[r.Intn(3)%2:])
		}
	}
	return b.String()
}

// pieces: a text cut anyhow, empty pieces too.
func pieces(r *rand.Rand, text string) []string {
	most := []int{1, 2, 5, 40, 200}[r.Intn(5)]
	list := []string{""}
	for text != "" {
		n := min(r.Intn(most+1), len(text))
		list = append(list, text[:n])
		text = text[n:]
	}
	return append(list, "")
}

// standing is a second reading of P14.1.
func standing(hashes []string, text string) []string {
	var list []string
	for _, h := range hashes {
		if strings.Contains(text, h) {
			list = append(list, h)
		}
	}
	slices.Sort(list)
	return slices.Compact(list)
}

func newScanner(t *testing.T, hashes ...string) *scan.Scanner {
	t.Helper()
	s, code := scan.New(hashes)
	if s == nil || code != api.OK {
		t.Fatalf("New(%q) = %v, %d", hashes, s, code)
	}
	return s
}

// holdScanner: that is what was found in text, and how much was taken.
func holdScanner(t *testing.T, s *scan.Scanner, hashes []string, text string) {
	t.Helper()
	if got, want := s.Found(), standing(hashes, text); !slices.Equal(got, want) {
		t.Fatalf("Found = %q, not %q, in %q", got, want, text)
	}
	if s.Taken() != len(text) {
		t.Fatalf("Taken = %d, not %d", s.Taken(), len(text))
	}
}

func TestNew(t *testing.T) { // P14.1
	for _, hashes := range [][]string{nil, {}, {letters}, {ones, letters}, {ones, ones}, overlapping()} {
		holdScanner(t, newScanner(t, hashes...), hashes, "")
	}
	for _, wrong := range wrongHashes() {
		for _, hashes := range [][]string{{wrong}, {wrong, letters}, {letters, wrong}, {letters, wrong, ones}, {wrong, wrong}} {
			if s, code := scan.New(hashes); s != nil || code != api.ErrHash {
				t.Errorf("New(%q) = %v, %d", hashes, s, code)
			}
		}
	}
}

func TestScannerFinds(t *testing.T) { // P14.1
	hashes := []string{ones, letters, ones}
	rows := []struct {
		text string
		want []string
	}{
		{"", nil},
		{letters, []string{letters}},
		{"xx" + letters + "e", []string{letters}},
		{"e" + letters + "e", []string{letters}},
		{letters + letters, []string{letters}},
		{ones + letters, []string{letters, ones}}, // rising
		{letters + ones, []string{letters, ones}},
		{strings.Repeat("1", 33), []string{ones}},
		{letters[1:], nil},
		{letters[:31], nil},
		{letters[:31] + "e" + letters[31:], nil},
		{letters[:16] + "-" + letters[16:], nil},
		{strings.Repeat("1", 31) + "e1", nil},
		{strings.Repeat("1", 31) + "e" + strings.Repeat("1", 31), nil},
		{strings.Repeat("1", 31) + "\n" + ones, []string{ones}},
		{strings.ToUpper(letters), nil},
		{letters[:31] + letters, []string{letters}},
		{strings.Repeat("0", 32), nil},
		{"/depot/store/" + letters + "-label", []string{letters}},
	}
	for _, r := range rows {
		s := newScanner(t, hashes...)
		s.Feed([]byte(r.text))
		if got := s.Found(); !slices.Equal(got, r.want) || s.Taken() != len(r.text) {
			t.Errorf("in %q: Found = %q, Taken = %d", r.text, got, s.Taken())
		}
	}
}

func TestScannerCutAnywhere(t *testing.T) { // P14.1, rule 6: two and three pieces
	hashes := []string{letters, ones}
	text := "x" + letters[:20] + letters + "-" + strings.Repeat("1", 33)
	for i := range len(text) + 1 {
		for j := i; j <= len(text); j++ {
			s := newScanner(t, hashes...)
			for _, end := range []int{i, j, len(text)} {
				s.Feed([]byte(text[s.Taken():end]))
				holdScanner(t, s, hashes, text[:end])
			}
		}
	}
}

func TestScannerWithGaps(t *testing.T) { // P14.1: a byte that is no letter, at each place of a hash and ahead of it
	for at := range 33 {
		text := letters[:at] + "t" + letters
		s := newScanner(t, letters)
		s.Feed([]byte(text))
		holdScanner(t, s, []string{letters}, text)
		s = newScanner(t, letters)
		for i := range len(text) {
			s.Feed([]byte(text[i : i+1]))
			holdScanner(t, s, []string{letters}, text[:i+1])
		}
		text = letters[:at] + "t" + letters[at:]
		s = newScanner(t, letters)
		s.Feed([]byte(text))
		holdScanner(t, s, []string{letters}, text)
	}
}

func TestScannerOfRandomTexts(t *testing.T) { // P1, P2, P14.1: what was found is told all along
	r := rand.New(rand.NewSource(1))
	all := overlapping()
	for range 3000 {
		var hashes []string
		for range r.Intn(6) {
			hashes = append(hashes, all[r.Intn(len(all))])
		}
		s := newScanner(t, hashes...)
		fed := ""
		for _, piece := range pieces(r, randomText(r, all)) {
			s.Feed([]byte(piece))
			fed += piece
			holdScanner(t, s, hashes, fed)
		}
	}
}

func TestScannerOfManyHashes(t *testing.T) { // P14.1
	r := rand.New(rand.NewSource(2))
	var hashes []string
	for range 2000 {
		h := make([]byte, 32)
		for i := range h {
			h[i] = letters[r.Intn(32)]
		}
		hashes = append(hashes, string(h))
	}
	text := strings.Join(hashes[500:1500], "")
	s := newScanner(t, hashes...)
	s.Feed([]byte(text))
	holdScanner(t, s, hashes, text)
	s.Feed(nil)
	s.Feed([]byte{})
	holdScanner(t, s, hashes, text)
}

func TestScannerOfALongText(t *testing.T) { // P1: the time goes by the bytes
	text := bytes.Repeat([]byte("1"), 1<<22)
	s := newScanner(t, strings.Repeat("1", 31)+"2")
	s.Feed(text)
	s.Feed([]byte("2"))
	if s.Taken() != 1<<22+1 || len(s.Found()) != 1 {
		t.Errorf("Taken = %d, Found = %q", s.Taken(), s.Found())
	}
}

func TestScannerKeepsNothing(t *testing.T) { // rule 4: pieces, their spare room and the hashes may be changed behind the call; no two answers share memory
	hashes := []string{ones, letters}
	s := newScanner(t, hashes...)
	hashes[0], hashes[1] = "", ""
	room := []byte("xxxx" + letters[:20] + "room behind it")
	piece := room[4:24]
	s.Feed(piece)
	if string(room) != "xxxx"+letters[:20]+"room behind it" {
		t.Errorf("Feed changed its piece: %q", room)
	}
	for i := range room {
		room[i] = '1'
	}
	s.Feed([]byte(letters[20:]))
	s.Feed(room)
	holdScanner(t, s, []string{ones, letters}, letters+strings.Repeat("1", len(room)))
	first := s.Found()
	for i := range first[:cap(first)] {
		first[:cap(first)][i] = "x"
	}
	s.Feed([]byte("e"))
	holdScanner(t, s, []string{ones, letters}, letters+strings.Repeat("1", len(room))+"e")
}

func TestScannersGoOnByThemselves(t *testing.T) { // P2
	a, b := newScanner(t, ones), newScanner(t, ones)
	a.Feed([]byte(ones[:16]))
	b.Feed([]byte(ones[16:]))
	b.Feed([]byte("e"))
	a.Feed([]byte(ones[16:]))
	holdScanner(t, a, []string{ones}, ones)
	holdScanner(t, b, []string{ones}, ones[16:]+"e")
}
