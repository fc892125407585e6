package radix_test

import (
	"encoding/hex"
	"math"
	"math/big"
	"math/rand"
	"slices"
	"strings"
	"testing"

	"depot/api"
	"depot/radix"
)

const (
	digits  = "0123456789abcdef"
	letters = "0123456789abcdfghijklmnpqrsvwxyz"
)

func randomText(r *rand.Rand, n int) string {
	b := make([]byte, n)
	r.Read(b)
	return string(b)
}

func allBytes() string {
	b := make([]byte, 256)
	for i := range b {
		b[i] = byte(i)
	}
	return string(b)
}

// refused: is that the error, with nothing beside it?
func refused(t *testing.T, call, in string, got string, e, want api.Errno) {
	t.Helper()
	if e != want || got != "" {
		t.Errorf("%s(%q) = %q, %v, want %v", call, in, got, e, want)
	}
}

func TestHex(t *testing.T) { // P2.1
	if got := radix.Hex("\x00\xffA"); got != "00ff41" {
		t.Errorf("Hex = %s", got)
	}
	r := rand.New(rand.NewSource(1))
	texts := []string{"", allBytes(), strings.Repeat("\xf0", 100000)}
	for n := range 50 {
		texts = append(texts, randomText(r, n))
	}
	for _, b := range texts {
		s := radix.Hex(b)
		if s != hex.EncodeToString([]byte(b)) {
			t.Errorf("Hex(%q) = %s", b, s)
		}
		if back, e := radix.FromHex(s); back != b || e != api.OK {
			t.Errorf("FromHex(%s) = %q, %v", s, back, e)
		}
	}
}

func TestFromHexLetters(t *testing.T) { // P2.1: small letters alone
	for i := range 256 {
		c := string([]byte{byte(i)})
		for _, s := range []string{c + "0", "0" + c, "00" + c + "f", "0f" + "f" + c} {
			got, e := radix.FromHex(s)
			if !strings.Contains(digits, c) {
				refused(t, "FromHex", s, got, e, api.ErrLetter)
			} else if e != api.OK || radix.Hex(got) != s {
				t.Errorf("FromHex(%q) = %q, %v", s, got, e)
			}
		}
	}
}

func TestFromHexLengths(t *testing.T) { // P2.1: the length is looked at first
	for _, s := range []string{"0", "000", "g", "0gG", "\x00", strings.Repeat("a", 99)} {
		got, e := radix.FromHex(s)
		refused(t, "FromHex", s, got, e, api.ErrLength)
	}
}

func TestValue(t *testing.T) { // P2.2
	for i := range 256 {
		if got, want := radix.Value(byte(i)), slices.Index([]byte(letters), byte(i)); got != want {
			t.Errorf("Value(%q) = %d, want %d", byte(i), got, want)
		}
	}
	for _, c := range []byte("eotuAZ-\x00\xff") {
		if radix.Value(c) != -1 {
			t.Errorf("Value(%q)", c)
		}
	}
}

// numberOf: the number that bytes are, the first one lowest.
func numberOf(b string) *big.Int {
	back := []byte(b)
	slices.Reverse(back)
	return new(big.Int).SetBytes(back)
}

// lettersOf: the number in m letters, the last one lowest.
func lettersOf(n *big.Int, m int) string {
	n = new(big.Int).Set(n)
	out := make([]byte, m)
	for i := range out {
		low := new(big.Int)
		n.QuoRem(n, big.NewInt(32), low)
		out[m-1-i] = letters[low.Int64()]
	}
	return string(out)
}

// lettersFor: the least m with 5m at least 8n.
func lettersFor(n int) int {
	m := 0
	for 5*m < 8*n {
		m++
	}
	return m
}

func TestBase32Examples(t *testing.T) { // P2.2
	rows := []struct{ b, want string }{{"", ""}, {"\x01", "01"}, {"\xff", "7z"}, {"\x00", "00"}, {"\x00\x01", "0080"}, {"\x00\x00\x00\x00\x80", "h0000000"}}
	for _, r := range rows {
		if got := radix.Base32(r.b); got != r.want {
			t.Errorf("Base32(%q) = %s, want %s", r.b, got, r.want)
		}
	}
}

func TestBase32(t *testing.T) { // P2.2: every length, and back
	r := rand.New(rand.NewSource(2))
	for n := range 100 {
		for _, b := range []string{randomText(r, n), strings.Repeat("\x00", n), strings.Repeat("\xff", n)} {
			s := radix.Base32(b)
			if s != lettersOf(numberOf(b), lettersFor(n)) {
				t.Fatalf("Base32(%q) = %s", b, s)
			}
			if back, e := radix.FromBase32(s); back != b || e != api.OK {
				t.Fatalf("FromBase32(%s) = %q, %v", s, back, e)
			}
		}
	}
	long := randomText(r, 100001)
	if back, e := radix.FromBase32(radix.Base32(long)); back != long || e != api.OK {
		t.Error("a long text, there and back")
	}
}

func TestBase32BitByBit(t *testing.T) { // P2.2: bit k has its one place
	for n := 1; n < 12; n++ {
		for k := range 8 * n {
			b := make([]byte, n)
			b[k/8] = 1 << (k % 8)
			want := lettersOf(new(big.Int).Lsh(big.NewInt(1), uint(k)), lettersFor(n))
			if got := radix.Base32(string(b)); got != want {
				t.Errorf("bit %d of %d bytes: %s, want %s", k, n, got, want)
			}
		}
	}
}

func TestFromBase32Lengths(t *testing.T) { // P2.2: the length is looked at first
	right := map[int]bool{}
	for n := range 60 {
		right[lettersFor(n)] = true
	}
	for m := range 90 {
		for _, s := range []string{strings.Repeat("0", m), strings.Repeat("z", m), strings.Repeat("!", m)} {
			got, e := radix.FromBase32(s)
			if !right[m] {
				refused(t, "FromBase32", s, got, e, api.ErrLength)
			} else if e == api.ErrLength {
				t.Errorf("FromBase32 of %d letters: %v", m, e)
			}
		}
	}
}

func TestFromBase32OfTwo(t *testing.T) { // P2.2: all 65536 of two bytes; the letters are looked at ahead of the spare bits
	for i := range 1 << 16 {
		s := string([]byte{byte(i >> 8), byte(i)})
		got, e := radix.FromBase32(s)
		high, low := strings.IndexByte(letters, s[0]), strings.IndexByte(letters, s[1])
		switch {
		case high < 0 || low < 0:
			refused(t, "FromBase32", s, got, e, api.ErrLetter)
		case high > 7:
			refused(t, "FromBase32", s, got, e, api.ErrSpare)
		case e != api.OK || got != string([]byte{byte(high<<5 | low)}):
			t.Errorf("FromBase32(%q) = %q, %v", s, got, e)
		}
	}
}

func TestFromBase32SpareBits(t *testing.T) { // P2.2: each bit from 8n on, of every length
	for n := range 25 {
		m := lettersFor(n)
		for k := range 5 * m {
			s := lettersOf(new(big.Int).Lsh(big.NewInt(1), uint(k)), m)
			got, e := radix.FromBase32(s)
			if k >= 8*n {
				refused(t, "FromBase32", s, got, e, api.ErrSpare)
				bad := s[:m-1] + "u"
				got, e = radix.FromBase32(bad)
				refused(t, "FromBase32", bad, got, e, api.ErrLetter)
			} else if e != api.OK || radix.Base32(got) != s {
				t.Errorf("FromBase32(%s) = %q, %v", s, got, e)
			}
		}
	}
}

func TestFromBase32Letters(t *testing.T) { // P2.2: a wrong byte at each place
	whole := strings.Repeat("0", 52)
	for at := range len(whole) {
		for _, c := range "eotuEOTUA-/ \x00\x7f" {
			s := whole[:at] + string(c) + whole[at+1:]
			got, e := radix.FromBase32(s)
			refused(t, "FromBase32", s, got, e, api.ErrLetter)
		}
	}
}

func TestFold(t *testing.T) { // P2.3
	if got, e := radix.Fold("\x01\x02\x04", 2); got != "\x05\x02" || e != api.OK {
		t.Errorf("Fold = %q, %v", got, e)
	}
	r := rand.New(rand.NewSource(3))
	for n := 1; n <= radix.MaxFold; n++ {
		for _, size := range []int{0, 1, n - 1, n, n + 1, 2*n + 1, 300} {
			b := randomText(r, size)
			want := make([]byte, n)
			for i := range want {
				for at := i; at < size; at += n {
					want[i] ^= b[at]
				}
			}
			if got, e := radix.Fold(b, n); got != string(want) || e != api.OK {
				t.Errorf("Fold(%q, %d) = %q, %v, want %q", b, n, got, e, want)
			}
		}
	}
}

func TestFoldRange(t *testing.T) { // P2.3
	if radix.MaxFold != 64 {
		t.Error("MaxFold")
	}
	for _, n := range []int{0, -1, math.MinInt, radix.MaxFold + 1, 1000, math.MaxInt} {
		for _, b := range []string{"", "a", strings.Repeat("a", 200)} {
			got, e := radix.Fold(b, n)
			refused(t, "Fold", b, got, e, api.ErrRange)
		}
	}
}

func TestAnyText(t *testing.T) { // P1, P2: whatever comes in, the answer is the same twice, and what is taken is the one right form
	r := rand.New(rand.NewSource(4))
	for range 5000 {
		s := randomText(r, r.Intn(20))
		if r.Intn(2) == 0 { // mostly letters, so that the later errors are reached too
			b := []byte(s)
			for i := range b {
				b[i] = letters[b[i]%32]
			}
			s = string(b)
		}
		if got, e := radix.FromHex(s); e == api.OK && radix.Hex(got) != s || e != api.OK && got != "" {
			t.Fatalf("FromHex(%q) = %q, %v", s, got, e)
		}
		got, e := radix.FromBase32(s)
		if e == api.OK && radix.Base32(got) != s || e != api.OK && got != "" {
			t.Fatalf("FromBase32(%q) = %q, %v", s, got, e)
		}
		again, e2 := radix.FromBase32(s)
		if again != got || e2 != e {
			t.Fatalf("FromBase32(%q) twice", s)
		}
	}
}
