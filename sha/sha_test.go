package sha_test

import (
	"bytes"
	"crypto/sha256"
	"encoding"
	"encoding/binary"
	"encoding/hex"
	"math"
	"math/big"
	"math/rand"
	"strings"
	"testing"

	"depot/api"
	"depot/sha"
)

func randomText(r *rand.Rand, n int) string {
	b := make([]byte, n)
	r.Read(b)
	return string(b)
}

func hexOf(d api.Digest) string { return hex.EncodeToString(d[:]) }

// libraryBlock sets the library's own SHA-256 to the words h, gives it one block and reads its words back.
func libraryBlock(t *testing.T, h [8]uint32, block [64]byte) [8]uint32 {
	t.Helper()
	state := []byte("sha\x03")
	for _, w := range h {
		state = binary.BigEndian.AppendUint32(state, w)
	}
	state = append(state, make([]byte, 64+8)...)
	d := sha256.New()
	if err := d.(encoding.BinaryUnmarshaler).UnmarshalBinary(state); err != nil {
		t.Fatal(err)
	}
	d.Write(block[:])
	state, err := d.(encoding.BinaryMarshaler).MarshalBinary()
	if err != nil {
		t.Fatal(err)
	}
	var out [8]uint32
	for i := range out {
		out[i] = binary.BigEndian.Uint32(state[4+4*i:])
	}
	return out
}

func TestBlockOfOneMessage(t *testing.T) { // P1.1
	start := [8]uint32{0x6a09e667, 0xbb67ae85, 0x3c6ef372, 0xa54ff53a, 0x510e527f, 0x9b05688c, 0x1f83d9ab, 0x5be0cd19}
	block := [64]byte([]byte("abc" + sha.Pad(3)))
	want := [8]uint32{0xba7816bf, 0x8f01cfea, 0x414140de, 0x5dae2223, 0xb00361a3, 0x96177a9c, 0xb410ff61, 0xf20015ad}
	if got := sha.Block(start, block); got != want {
		t.Errorf("Block of abc = %08x", got)
	}
}

func TestBlockOfAnyWords(t *testing.T) { // P1.1
	r := rand.New(rand.NewSource(1))
	var h [8]uint32
	var block [64]byte
	for i := range 2000 {
		switch i {
		case 0: // all noughts
		case 1:
			for j := range h {
				h[j] = math.MaxUint32
			}
			for j := range block {
				block[j] = 255
			}
		default:
			for j := range h {
				h[j] = r.Uint32()
			}
			r.Read(block[:])
		}
		if got, want := sha.Block(h, block), libraryBlock(t, h, block); got != want {
			t.Fatalf("Block(%08x, %x) = %08x, want %08x", h, block, got, want)
		}
	}
}

func TestBlockBitByBit(t *testing.T) { // P1.1: each bit of the arguments counts at its place
	for bit := range 512 {
		var block [64]byte
		block[bit/8] = 1 << (bit % 8)
		if sha.Block([8]uint32{}, block) != libraryBlock(t, [8]uint32{}, block) {
			t.Errorf("bit %d of the block", bit)
		}
	}
	for bit := range 256 {
		var h [8]uint32
		h[bit/32] = 1 << (bit % 32)
		if sha.Block(h, [64]byte{}) != libraryBlock(t, h, [64]byte{}) {
			t.Errorf("bit %d of the words", bit)
		}
	}
}

// checkPad holds Pad(n) against the promise, with numbers that don't wrap round.
func checkPad(t *testing.T, n int) {
	t.Helper()
	p := sha.Pad(n)
	if len(p) < 9 || len(p) > 72 {
		t.Fatalf("Pad(%d) has %d bytes", n, len(p))
	}
	whole := new(big.Int).Add(big.NewInt(int64(n)), big.NewInt(int64(len(p))))
	if new(big.Int).Mod(whole, big.NewInt(64)).Sign() != 0 {
		t.Errorf("Pad(%d) has %d bytes", n, len(p))
	}
	if p[0] != 128 || strings.Trim(p[1:len(p)-8], "\x00") != "" {
		t.Errorf("Pad(%d) = %q", n, p)
	}
	bits := new(big.Int).Lsh(big.NewInt(int64(n)), 3)
	bits.Mod(bits, new(big.Int).Lsh(big.NewInt(1), 64))
	if got := binary.BigEndian.Uint64([]byte(p[len(p)-8:])); got != bits.Uint64() {
		t.Errorf("Pad(%d) ends in %d, want %d", n, got, bits)
	}
}

func TestPad(t *testing.T) { // P1.2
	if p := sha.Pad(0); p != "\x80"+strings.Repeat("\x00", 63) {
		t.Errorf("Pad(0) = %q", p)
	}
	if p := sha.Pad(55); p != "\x80\x00\x00\x00\x00\x00\x00\x01\xb8" {
		t.Errorf("Pad(55) = %q", p)
	}
	if p := sha.Pad(56); len(p) != 72 {
		t.Errorf("Pad(56) = %q", p)
	}
	if p := sha.Pad(63); len(p) != 65 {
		t.Errorf("Pad(63) = %q", p)
	}
	for n := range 300 {
		checkPad(t, n)
	}
	for _, n := range []int{math.MaxInt32, 1 << 32, 1<<61 - 1, 1 << 61, 1<<61 + 7, 1 << 62} {
		checkPad(t, n)
	}
	for k := range 130 { // at the top, every rest by 64
		checkPad(t, math.MaxInt-k)
	}
	for _, n := range []int{-1, -8, -64, math.MinInt32, math.MinInt} {
		if p := sha.Pad(n); p != "" {
			t.Errorf("Pad(%d) = %q", n, p)
		}
	}
}

func TestNewHasNothingWritten(t *testing.T) { // P1.3
	s := sha.New()
	if s.Size() != 0 || s.Sum() != sha.Of("") {
		t.Error("a new State")
	}
	other := sha.New()
	s.WriteText("x")
	if other.Size() != 0 || other.Sum() != sha.Of("") {
		t.Error("two new States have something in common")
	}
}

func TestTwoPieces(t *testing.T) { // P1.3: every cut of texts around one, two and three blocks
	r := rand.New(rand.NewSource(2))
	for n := range 200 {
		text := randomText(r, n)
		want := api.Digest(sha256.Sum256([]byte(text)))
		for cut := range n + 1 {
			a, b := sha.New(), sha.New()
			a.Write([]byte(text[:cut]))
			a.WriteText(text[cut:])
			b.WriteText(text[:cut])
			b.Write([]byte(text[cut:]))
			if a.Sum() != want || b.Sum() != want || a.Size() != n || b.Size() != n {
				t.Fatalf("%d bytes, cut at %d", n, cut)
			}
		}
	}
}

func TestManyPieces(t *testing.T) { // P1.3, P1.4: empty pieces too, with the digest asked all along
	r := rand.New(rand.NewSource(3))
	for range 100 {
		s, lib := sha.New(), sha256.New()
		size := 0
		for range 30 {
			piece := randomText(r, r.Intn(4)*r.Intn(70))
			if r.Intn(2) == 0 {
				s.Write([]byte(piece))
			} else {
				s.WriteText(piece)
			}
			lib.Write([]byte(piece))
			size += len(piece)
			if s.Size() != size || s.Sum() != api.Digest(lib.Sum(nil)) {
				t.Fatalf("behind %d bytes: Size %d", size, s.Size())
			}
		}
	}
	s := sha.New()
	s.Write(nil)
	s.Write([]byte{})
	s.WriteText("")
	if s.Size() != 0 || s.Sum() != sha.Of("") {
		t.Error("nothing written")
	}
}

func TestWriteNeitherChangesNorKeeps(t *testing.T) { // P2, rule 4
	for _, n := range []int{1, 63, 64, 65, 128, 200} {
		room := bytes.Repeat([]byte{7}, n+100)
		before := bytes.Clone(room)
		s := sha.New()
		s.Write(room[:n])
		if !bytes.Equal(room, before) {
			t.Errorf("Write of %d bytes changed them, or what is behind them", n)
		}
		clear(room)
		if s.Sum() != sha.Of(string(before[:n])) {
			t.Errorf("Write of %d bytes keeps them", n)
		}
	}
}

func TestSumLeavesTheState(t *testing.T) { // P1.4
	for _, n := range []int{0, 1, 55, 56, 63, 64, 65, 119, 120, 128} {
		text := strings.Repeat("s", n)
		s := sha.New()
		s.WriteText(text)
		first := s.Sum()
		if second := s.Sum(); first != second || s.Size() != n {
			t.Errorf("Sum twice behind %d bytes", n)
		}
		s.WriteText("more")
		if s.Sum() != sha.Of(text+"more") || s.Size() != n+4 {
			t.Errorf("written on behind Sum at %d bytes", n)
		}
	}
}

func TestFork(t *testing.T) { // P1.5
	for _, n := range []int{0, 1, 63, 64, 65, 130} {
		text := strings.Repeat("f", n)
		s := sha.New()
		s.WriteText(text)
		f := s.Fork()
		if f == s || f.Sum() != s.Sum() || f.Size() != n {
			t.Fatalf("Fork at %d bytes", n)
		}
		s.WriteText("left")
		f.Write([]byte("right side"))
		g := f.Fork()
		f.Reset()
		if s.Sum() != sha.Of(text+"left") || s.Size() != n+4 {
			t.Errorf("the State that was forked at %d bytes", n)
		}
		if g.Sum() != sha.Of(text+"right side") || g.Size() != n+10 {
			t.Errorf("the fork of a fork at %d bytes", n)
		}
		if f.Sum() != sha.Of("") || f.Size() != 0 {
			t.Errorf("the fork at %d bytes, behind Reset", n)
		}
	}
}

func TestReset(t *testing.T) { // P1.5
	for _, n := range []int{0, 1, 63, 64, 65, 200} {
		s := sha.New()
		s.WriteText(strings.Repeat("r", n))
		s.Reset()
		if s.Size() != 0 || s.Sum() != sha.Of("") {
			t.Errorf("Reset behind %d bytes", n)
		}
		s.WriteText("abc")
		if s.Size() != 3 || s.Sum() != sha.Of("abc") {
			t.Errorf("written behind Reset at %d bytes", n)
		}
	}
}

func TestOfKnownTexts(t *testing.T) { // P1.4, P1.6
	rows := []struct{ text, want string }{
		{"", "e3b0c44298fc1c149afbf4c8996fb92427ae41e4649b934ca495991b7852b855"},
		{"abc", "ba7816bf8f01cfea414140de5dae2223b00361a396177a9cb410ff61f20015ad"},
		{"abcdbcdecdefdefgefghfghighijhijkijkljklmklmnlmnomnopnopq", "248d6a61d20638b8e5c026930c3e6039a33ce45964ff2167f6ecedd419db06c1"},
		{strings.Repeat("a", 1000000), "cdc76e5c9914fb9281a1c7e284d73e67f1809a48a497200e046d39ccc7112cd0"},
	}
	for _, r := range rows {
		if got := hexOf(sha.Of(r.text)); got != r.want {
			t.Errorf("Of of %d bytes = %s, want %s", len(r.text), got, r.want)
		}
	}
}

func TestOfAnyText(t *testing.T) { // P1, P2, P1.6: every length around the blocks' edges, all kinds of bytes
	r := rand.New(rand.NewSource(4))
	for n := range 400 {
		text := randomText(r, n)
		want := api.Digest(sha256.Sum256([]byte(text)))
		s := sha.New()
		s.WriteText(text)
		if sha.Of(text) != want || sha.Of(text) != want || s.Sum() != want {
			t.Fatalf("Of(%q)", text)
		}
	}
}
