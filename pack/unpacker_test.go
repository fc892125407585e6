package pack_test

import (
	"encoding/binary"
	"math"
	"math/rand"
	"slices"
	"strings"
	"testing"

	"depot/api"
	"depot/pack"
)

// story is what the document says of a packed text: the bytes that are taken, the fault, and the text.
type story struct {
	taken int
	fault api.Fault
	text  string
}

// storyOf reads the packed text at once, token by token.
func storyOf(p string) story {
	short := story{taken: len(p), fault: fault(api.ErrShort, len(p))}
	if len(p) < 8 {
		return short
	}
	whole := binary.LittleEndian.Uint64([]byte(p))
	if whole > 1048576 {
		return story{taken: 7, fault: fault(api.ErrBig, 0)}
	}
	text := ""
	at := 8
	for at < len(p) {
		missing := int(whole) - len(text)
		n := int(p[at]) + 1
		if p[at] >= 128 {
			n = int(p[at]) - 124
		}
		if missing == 0 {
			return story{taken: at, fault: fault(api.ErrTrail, at)}
		}
		if n > missing {
			return story{taken: at, fault: fault(api.ErrExtra, at)}
		}
		if p[at] < 128 {
			if at+1+n > len(p) {
				return short
			}
			text += p[at+1 : at+1+n]
			at += 1 + n
			continue
		}
		if at+3 > len(p) {
			return short
		}
		far := int(p[at+1]) + 256*int(p[at+2]) + 1
		if far > len(text) {
			return story{taken: at + 2, fault: fault(api.ErrFar, at)}
		}
		stood := text[len(text)-far:]
		text += strings.Repeat(stood, n/len(stood)+1)[:n]
		at += 3
	}
	if len(text) < int(whole) {
		return short
	}
	return story{taken: at, text: text}
}

// follow feeds the packed text in the pieces that end at cuts, and holds each call's answers against the story.
func follow(t *testing.T, p string, s story, cuts []int) {
	t.Helper()
	u := pack.NewUnpacker()
	from := 0
	for _, to := range append(slices.Clone(cuts), len(p)) {
		piece := []byte(p[from:to])
		took := u.Feed(piece)
		if string(piece) != p[from:to] {
			t.Fatalf("Feed changed its piece")
		}
		for i := range piece {
			piece[i] ^= 0x55 // what is kept must not hang on the caller's bytes
		}
		if want := min(to, s.taken) - min(from, s.taken); took != want {
			t.Fatalf("%q: bytes %d to %d: took %d, not %d", p, from, to, took, want)
		}
		early := s.fault
		if early.Code == api.ErrShort || s.taken >= to {
			early = api.Fault{}
		}
		if u.Fault() != early || u.Taken() != min(to, s.taken) {
			t.Fatalf("%q: behind %d: %v, %d", p, to, u.Fault(), u.Taken())
		}
		from = to
	}
	for range 2 {
		text, f := u.Close()
		if text != s.text || f != s.fault || u.Fault() != s.fault || u.Taken() != s.taken {
			t.Fatalf("%q: closed: %q, %v, %v, %d, not %q, %v, %d", p, text, f, u.Fault(), u.Taken(), s.text, s.fault, s.taken)
		}
		if took := u.Feed([]byte("more bytes")); took != 0 {
			t.Fatalf("%q: a closed Unpacker takes %d bytes", p, took)
		}
	}
}

// followAll feeds the packed text whole, byte by byte, with empty pieces, and in two pieces of all lengths.
func followAll(t *testing.T, p string) {
	t.Helper()
	s := storyOf(p)
	var single, doubled []int
	for i := range len(p) {
		follow(t, p, s, []int{i})
		single = append(single, i)
		doubled = append(doubled, i, i)
	}
	follow(t, p, s, nil)
	follow(t, p, s, single)
	follow(t, p, s, doubled)
	if text, f := pack.Unpack(p); text != s.text || f != s.fault {
		t.Fatalf("Unpack(%q) = %q, %v, not %q, %v", p, text, f, s.text, s.fault)
	}
}

func TestUnpack(t *testing.T) { // P10.1, P10.3, P10.4
	long := strings.Repeat("0123456789abcdef", 8)
	rows := []struct{ packed, text string }{
		{length(0), ""},
		{length(1) + plain("a"), "a"},
		{length(2) + plain("a") + plain("b"), "ab"}, // not as Pack writes it
		{length(128) + plain(long), long},
		{length(8) + plain("a") + back(7, 1), "aaaaaaaa"},
		{length(8) + plain("ab") + back(4, 2) + plain("ab"), "abababab"},
		{length(9) + plain("abcde") + back(4, 5), "abcdeabcd"},
		{length(12) + plain("abcd") + back(4, 4) + back(4, 8), "abcdabcdabcd"},
		{length(8) + plain("abcd") + back(4, 3), "abcdbcdb"},
		{length(132) + plain("z") + back(131, 1), strings.Repeat("z", 132)},
		{length(259) + plain(long) + back(131, 128), (long + long + long)[:259]},
		{length(8) + plain("\x80\xff\x00\x80") + back(4, 4), "\x80\xff\x00\x80\x80\xff\x00\x80"},
	}
	for _, r := range rows {
		if got, f := pack.Unpack(r.packed); got != r.text || f != (api.Fault{}) {
			t.Errorf("Unpack(%q) = %q, %v", r.packed, got, f)
		}
		followAll(t, r.packed)
		for i := range len(r.packed) {
			followAll(t, r.packed[:i])
		}
		followAll(t, r.packed+"\x00")
		followAll(t, r.packed+"\xffmore")
	}
}

func TestUnpackOfWrongTexts(t *testing.T) { // P10.3, P10.4
	rows := []struct {
		packed string
		want   api.Fault
	}{
		{"", fault(api.ErrShort, 0)},
		{length(0)[:7], fault(api.ErrShort, 7)},
		{length(1), fault(api.ErrShort, 8)},
		{length(2) + plain("a"), fault(api.ErrShort, 10)},
		{length(2) + plain("ab")[:2], fault(api.ErrShort, 10)},
		{length(5) + plain("a") + back(4, 1)[:1], fault(api.ErrShort, 11)},
		{length(5) + plain("a") + back(4, 1)[:2], fault(api.ErrShort, 12)},
		{length(1 << 20), fault(api.ErrShort, 8)},
		{length(1<<20 + 1), fault(api.ErrBig, 0)},
		{length(1<<20+1) + "x", fault(api.ErrBig, 0)},
		{length(1 << 24), fault(api.ErrBig, 0)},
		{length(1 << 63), fault(api.ErrBig, 0)},
		{length(math.MaxUint64), fault(api.ErrBig, 0)},
		{length(1<<56 + 1), fault(api.ErrBig, 0)},
		{length(0) + "x", fault(api.ErrTrail, 8)},
		{length(0) + "\x80", fault(api.ErrTrail, 8)}, // and not ErrExtra
		{length(1) + plain("a") + "\x00", fault(api.ErrTrail, 10)},
		{length(5) + plain("a") + back(4, 1) + "\xff", fault(api.ErrTrail, 13)},
		{length(1) + plain("ab"), fault(api.ErrExtra, 8)},
		{length(1) + "\x01", fault(api.ErrExtra, 8)},
		{length(127) + "\x7f", fault(api.ErrExtra, 8)},
		{length(3) + "\x80", fault(api.ErrExtra, 8)}, // and not ErrFar
		{length(4) + plain("a") + back(4, 1), fault(api.ErrExtra, 10)},
		{length(5) + plain("a") + back(5, 1), fault(api.ErrExtra, 10)},
		{length(131) + plain("a") + "\xff", fault(api.ErrExtra, 10)},
		{length(3) + plain("a") + plain("bcd"), fault(api.ErrExtra, 10)},
		{length(4) + back(4, 1), fault(api.ErrFar, 8)},
		{length(5) + plain("a") + back(4, 2), fault(api.ErrFar, 10)},
		{length(5) + plain("a") + back(4, 65536), fault(api.ErrFar, 10)},
		{length(5) + plain("a") + back(4, 257), fault(api.ErrFar, 10)},
		{length(12) + plain("abcd") + back(4, 4) + back(4, 9), fault(api.ErrFar, 16)},
	}
	for _, r := range rows {
		if got, f := pack.Unpack(r.packed); f != r.want || got != "" {
			t.Errorf("Unpack(%q) = %q, %v, not %v", r.packed, got, f, r.want)
		}
		followAll(t, r.packed)
	}
}

func TestTakenAtAFault(t *testing.T) { // P10.3
	rows := []struct {
		packed string
		taken  int
	}{
		{length(1<<20+1) + "x", 7},
		{length(0) + "xyz", 8},
		{length(1) + plain("ab"), 8},
		{length(4) + back(4, 1) + "x", 10},
	}
	for _, r := range rows {
		u := pack.NewUnpacker()
		if took := u.Feed([]byte(r.packed)); took != r.taken || u.Taken() != r.taken {
			t.Errorf("%q: took %d, %d in all", r.packed, took, u.Taken())
		}
		first := u.Fault()
		if took := u.Feed([]byte("x")); took != 0 || u.Taken() != r.taken || u.Fault() != first {
			t.Errorf("%q: behind the fault: took %d, %d in all, %v", r.packed, took, u.Taken(), u.Fault())
		}
	}
}

func TestUnpackOfRandomTokens(t *testing.T) { // P10.3, P10.4
	r := rand.New(rand.NewSource(104))
	for range 6000 {
		tokens, size := "", 0
		for range r.Intn(6) {
			if r.Intn(2) == 0 || size == 0 {
				s := someText(r, 1+r.Intn(12))
				tokens += plain(s)
				size += len(s)
			} else {
				n := 4 + r.Intn(12)
				tokens += back(n, 1+r.Intn(size+r.Intn(2)))
				size += n
			}
		}
		if r.Intn(6) == 0 {
			size += r.Intn(9) - 4
		}
		p := []byte(length(uint64(max(size, 0))) + tokens)
		switch r.Intn(5) {
		case 0:
			p = append(p, byte(r.Intn(256)))
		case 1:
			p = p[:r.Intn(len(p)+1)]
		case 2:
			p[r.Intn(len(p))] ^= 1 << r.Intn(8)
		}
		followAll(t, string(p))
	}
}

func TestUnpackOfPackedTexts(t *testing.T) { // P10.3
	r := rand.New(rand.NewSource(105))
	for range 20 {
		p, _ := pack.Pack(someText(r, 500))
		followAll(t, p)
	}
	p, _ := pack.Pack(someText(r, 300000))
	var cuts []int
	for at := r.Intn(9000); at < len(p); at += r.Intn(9000) {
		cuts = append(cuts, at)
	}
	follow(t, p, storyOf(p), cuts)
}

func TestUnpackFarBack(t *testing.T) { // P10.1, P10.3
	text := unlike(70000)
	tokens := ""
	for rest := text; rest != ""; rest = rest[min(128, len(rest)):] {
		tokens += plain(rest[:min(128, len(rest))])
	}
	for _, far := range []int{65536, 65535, 257, 256, 255} {
		want := text + text[70000-far:][:131]
		if got, f := pack.Unpack(length(70131) + tokens + back(131, far)); got != want || f != (api.Fault{}) {
			t.Errorf("by %d: %v", far, f)
		}
	}
}

func TestCloseEarly(t *testing.T) { // P10.3
	u := pack.NewUnpacker()
	p := length(2) + plain("ab")
	u.Feed([]byte(p[:9]))
	if text, f := u.Close(); text != "" || f != fault(api.ErrShort, 9) || u.Fault() != f {
		t.Errorf("%q, %v", text, f)
	}
	if took := u.Feed([]byte(p[9:])); took != 0 || u.Taken() != 9 {
		t.Errorf("a closed Unpacker goes on: %d", took)
	}
	if text, f := u.Close(); text != "" || f != fault(api.ErrShort, 9) {
		t.Errorf("again: %q, %v", text, f)
	}
}

func TestUnpackersAreApart(t *testing.T) { // P2, rule 4
	p := length(8) + plain("abcd") + back(4, 4)
	a, b := pack.NewUnpacker(), pack.NewUnpacker()
	for i := range len(p) {
		a.Feed([]byte{p[i]})
		b.Feed([]byte{0xff})
	}
	if text, f := a.Close(); text != "abcdabcd" || f != (api.Fault{}) {
		t.Errorf("%q, %v", text, f)
	}
	if _, f := b.Close(); f != fault(api.ErrBig, 0) {
		t.Errorf("%v", f)
	}
	room := []byte(p + "spare room")
	c := pack.NewUnpacker()
	c.Feed(room[:10])
	c.Feed(room[10:len(p)])
	if string(room) != p+"spare room" {
		t.Error("Feed changed what it was given")
	}
}
