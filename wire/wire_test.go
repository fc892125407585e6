package wire_test

import (
	"encoding/binary"
	"math"
	"math/rand"
	"slices"
	"strings"
	"testing"

	"depot/api"
	"depot/wire"
)

func framedInt(n uint64) string {
	return string(binary.LittleEndian.AppendUint64(nil, n))
}

// framedText frames by adding noughts one by one, as the document tells it.
func framedText(s string) string {
	out := framedInt(uint64(len(s))) + s
	for len(out)%8 != 0 {
		out += "\x00"
	}
	return out
}

func fault(code api.Errno, at int) api.Fault { return api.Fault{Code: code, At: at} }

func TestInt(t *testing.T) { // P3.1
	rows := []struct {
		n    uint64
		want string
	}{
		{0, "\x00\x00\x00\x00\x00\x00\x00\x00"},
		{1, "\x01\x00\x00\x00\x00\x00\x00\x00"},
		{255, "\xff\x00\x00\x00\x00\x00\x00\x00"},
		{258, "\x02\x01\x00\x00\x00\x00\x00\x00"},
		{0x0807060504030201, "\x01\x02\x03\x04\x05\x06\x07\x08"},
		{1 << 63, "\x00\x00\x00\x00\x00\x00\x00\x80"},
		{math.MaxUint64, "\xff\xff\xff\xff\xff\xff\xff\xff"},
	}
	for _, r := range rows {
		if got := wire.Int(r.n); got != r.want {
			t.Errorf("Int(%d) = % x", r.n, got)
		}
	}
	r := rand.New(rand.NewSource(1))
	for range 1000 {
		n := r.Uint64() >> r.Intn(64)
		if got := wire.Int(n); got != framedInt(n) {
			t.Errorf("Int(%d) = % x", n, got)
		}
	}
}

func TestText(t *testing.T) { // P3.1
	for n := range 300 {
		for _, s := range []string{strings.Repeat("\x00", n), strings.Repeat("\xff", n)} {
			if got := wire.Text(s); got != framedText(s) {
				t.Errorf("Text of %d bytes = % x", n, got)
			}
		}
	}
	if got := wire.Text("a"); got != "\x01\x00\x00\x00\x00\x00\x00\x00a\x00\x00\x00\x00\x00\x00\x00" {
		t.Errorf("Text(a) = % x", got)
	}
}

func TestFramed(t *testing.T) { // P3.1
	for n := range 300 {
		if got := wire.Framed(n); got != len(framedText(strings.Repeat("x", n))) {
			t.Errorf("Framed(%d) = %d", n, got)
		}
	}
	rows := []struct{ n, want int }{
		{-1, 0}, {math.MinInt, 0},
		{1<<40 - 9, 1<<40 + 0}, {1<<40 - 8, 1 << 40}, {1<<40 - 7, 1<<40 + 8},
		{1<<40 - 1, 1<<40 + 8}, {1 << 40, 1<<40 + 8},
		{1<<40 + 1, 0}, {1 << 41, 0}, {math.MaxInt, 0},
	}
	for _, r := range rows {
		if got := wire.Framed(r.n); got != r.want {
			t.Errorf("Framed(%d) = %d, not %d", r.n, got, r.want)
		}
	}
}

// story is what the document says of a text that is read by a plan: the items, the number of bytes with which each became whole, the fault, and the bytes taken.
type story struct {
	items []wire.Item
	ends  []int
	fault api.Fault
	taken int
}

// storyOf reads the whole text at once, item by item.
func storyOf(text, plan string, most int) story {
	if at := strings.IndexFunc(plan, func(c rune) bool { return c != 'i' && c != 't' }); at >= 0 {
		return story{fault: fault(api.ErrPlan, at)}
	}
	most = max(most, 0)
	var s story
	at := 0
	short := func() story {
		s.fault, s.taken = fault(api.ErrShort, len(text)), len(text)
		return s
	}
	for _, c := range plan {
		if len(text)-at < 8 {
			return short()
		}
		n := binary.LittleEndian.Uint64([]byte(text[at:]))
		if c == 'i' {
			at += 8
			s.items = append(s.items, wire.Item{Int: true, Num: n})
			s.ends = append(s.ends, at)
			continue
		}
		if n > uint64(most) {
			s.fault, s.taken = fault(api.ErrLong, at), at+7
			return s
		}
		if uint64(len(text)-at-8) < n {
			return short()
		}
		body := text[at+8 : at+8+int(n)]
		at += 8 + int(n)
		for at%8 != 0 {
			if at == len(text) {
				return short()
			}
			if text[at] != 0 {
				s.fault, s.taken = fault(api.ErrPad, at), at
				return s
			}
			at++
		}
		s.items = append(s.items, wire.Item{Text: body})
		s.ends = append(s.ends, at)
	}
	s.taken = at
	if at < len(text) {
		s.fault = fault(api.ErrTrail, at)
	}
	return s
}

// follow feeds the text in the pieces that end at cuts, and holds each call's answers against the story.
func follow(t *testing.T, text, plan string, most int, cuts []int) {
	t.Helper()
	s := storyOf(text, plan, most)
	r := wire.NewReader(plan, most)
	from, told := 0, 0
	for _, to := range append(slices.Clone(cuts), len(text)) {
		var want []wire.Item
		for told < len(s.items) && s.ends[told] <= to {
			want = append(want, s.items[told])
			told++
		}
		piece := []byte(text[from:to])
		got := r.Feed(piece)
		if string(piece) != text[from:to] {
			t.Fatalf("Feed changed its piece")
		}
		for i := range piece {
			piece[i] ^= 0x55 // what is kept must not hang on the caller's bytes
		}
		if !slices.Equal(got, want) {
			t.Fatalf("%q by %q at most %d: bytes %d to %d: %v, not %v", text, plan, most, from, to, got, want)
		}
		early := s.fault
		if early.Code == api.ErrShort || early.Code != api.ErrPlan && s.taken >= to {
			early = api.Fault{}
		}
		if r.Fault() != early || r.Taken() != min(to, s.taken) {
			t.Fatalf("%q by %q at most %d: behind %d: %v, %d", text, plan, most, to, r.Fault(), r.Taken())
		}
		from = to
	}
	for range 2 {
		if got := r.Close(); got != s.fault || r.Fault() != s.fault || r.Taken() != s.taken {
			t.Fatalf("%q by %q at most %d: closed: %v, %v, %d, not %v, %d", text, plan, most, got, r.Fault(), r.Taken(), s.fault, s.taken)
		}
		if got := r.Feed([]byte("more bytes")); len(got) != 0 {
			t.Fatalf("Feed behind Close answers %v", got)
		}
	}
}

// followAll feeds the text whole, byte by byte, with empty pieces, and in two pieces of all lengths.
func followAll(t *testing.T, text, plan string, most int) {
	t.Helper()
	var single, doubled []int
	for i := range len(text) {
		follow(t, text, plan, most, []int{i})
		single = append(single, i)
		doubled = append(doubled, i, i)
	}
	follow(t, text, plan, most, nil)
	follow(t, text, plan, most, single)
	follow(t, text, plan, most, doubled)
	s := storyOf(text, plan, most)
	items, f := wire.Split(text, plan, most)
	if s.fault.Code != api.OK {
		s.items = nil
	}
	if f != s.fault || !slices.Equal(items, s.items) {
		t.Fatalf("Split(%q, %q, %d) = %v, %v", text, plan, most, items, f)
	}
}

func TestReaderOfWholeTexts(t *testing.T) { // P3.2, P3.3
	for n := range 26 {
		s := strings.Repeat("\xfe", n)
		for _, most := range []int{n, n + 1, math.MaxInt} {
			followAll(t, framedText(s), "t", most)
			followAll(t, framedInt(9)+framedText(s)+framedInt(math.MaxUint64), "iti", most)
		}
	}
	followAll(t, "", "", 0)
	followAll(t, framedText("")+framedText("")+framedText("a"), "ttt", 1)
	followAll(t, framedText(""), "t", -5)
	followAll(t, framedText("\x00\x00"), "t", 2)
}

func TestReaderOfShortTexts(t *testing.T) { // P3.2
	text := framedInt(5) + framedText("abc") + framedText("") + framedText("12345678")
	for n := range len(text) {
		followAll(t, text[:n], "ittt", 8)
	}
	followAll(t, framedInt(math.MaxInt64), "t", math.MaxInt) // announced, and never there
}

func TestReaderOfTrailingBytes(t *testing.T) { // P3.2
	for _, tail := range []string{"\x00", "x", "\x00\x00\x00\x00\x00\x00\x00\x00"} {
		followAll(t, tail, "", 0)
		followAll(t, framedText("abc")+tail, "t", 3)
		followAll(t, framedText("")+tail, "t", 3)
		followAll(t, framedInt(3)+tail, "i", 3)
	}
}

func TestReaderOfLongTexts(t *testing.T) { // P3.2
	rows := []struct {
		length uint64
		most   int
	}{
		{1, 0}, {1, -1}, {5, math.MinInt}, {4, 3}, {256, 255}, {1 << 32, math.MaxInt32},
		{1 << 56, 7}, {1 << 63, math.MaxInt}, {math.MaxUint64, math.MaxInt}, {math.MaxUint64, -1},
	}
	for _, r := range rows {
		followAll(t, framedInt(r.length), "t", r.most)
		followAll(t, framedText("")+framedInt(1)+framedInt(r.length)+"and so on", "titi", r.most)
	}
}

func TestReaderOfWrongPadding(t *testing.T) { // P3.2
	for n := range 17 {
		right := framedInt(6) + framedText(strings.Repeat("z", n))
		for at := 16 + n; at < len(right); at++ {
			for _, b := range []byte{1, 'z', 0x80, 0xff} {
				wrong := []byte(right)
				wrong[at] = b
				followAll(t, string(wrong), "it", n)
				followAll(t, string(wrong)+"more", "iti", n)
			}
		}
	}
}

func TestReaderOfWrongPlans(t *testing.T) { // P3.2
	for plan, at := range map[string]int{"x": 0, "ix": 1, "tI": 1, "ttT": 2, "it it": 2, "i\x00": 1, "\xff": 0, "iiiiié": 5} {
		r := wire.NewReader(plan, 8)
		if r.Fault() != fault(api.ErrPlan, at) {
			t.Errorf("plan %q: %v", plan, r.Fault())
		}
		followAll(t, "", plan, 8)
		followAll(t, framedInt(1)+framedInt(2), plan, 8)
	}
}

func TestReaderOfRandomBytes(t *testing.T) { // P3.2, P3.3
	r := rand.New(rand.NewSource(3))
	for range 600 {
		var text, plan strings.Builder
		for range r.Intn(5) {
			s := strings.Repeat(string(rune(r.Intn(128))), r.Intn(20))
			if r.Intn(2) == 0 {
				plan.WriteByte('i')
				text.WriteString(framedInt(r.Uint64()))
			} else {
				plan.WriteByte('t')
				text.WriteString(framedText(s))
			}
		}
		bytes := []byte(text.String())
		switch r.Intn(4) {
		case 0:
			bytes = append(bytes, byte(r.Intn(2)))
		case 1:
			bytes = bytes[:r.Intn(len(bytes)+1)]
		case 2:
			if len(bytes) > 0 {
				bytes[r.Intn(len(bytes))] ^= 1 << r.Intn(8)
			}
		}
		followAll(t, string(bytes), plan.String(), r.Intn(24))
	}
}

func TestItemsAheadOfTheFault(t *testing.T) { // P3.2
	r := wire.NewReader("iti", 3)
	got := r.Feed([]byte(framedInt(1) + framedText("ab") + framedInt(2) + "x"))
	want := []wire.Item{{Int: true, Num: 1}, {Text: "ab"}, {Int: true, Num: 2}}
	if !slices.Equal(got, want) || r.Fault() != fault(api.ErrTrail, 32) || r.Taken() != 32 {
		t.Errorf("%v, %v, %d", got, r.Fault(), r.Taken())
	}
	if got := r.Feed([]byte(framedInt(1))); len(got) != 0 || r.Taken() != 32 || r.Close() != fault(api.ErrTrail, 32) {
		t.Errorf("behind the fault: %v, %d", got, r.Taken())
	}
}

func TestFeedBehindAGoodClose(t *testing.T) { // P3.2
	r := wire.NewReader("i", 0)
	r.Feed([]byte(framedInt(4)))
	if f := r.Close(); f != (api.Fault{}) {
		t.Errorf("Close: %v", f)
	}
	if got := r.Feed([]byte("trail")); len(got) != 0 || r.Taken() != 8 || r.Fault() != (api.Fault{}) || r.Close() != (api.Fault{}) {
		t.Errorf("a closed Reader takes bytes: %v, %d, %v", got, r.Taken(), r.Fault())
	}
}

func TestFeedBehindAShortClose(t *testing.T) { // P3.2
	r := wire.NewReader("i", 0)
	whole := framedInt(4)
	r.Feed([]byte(whole[:3]))
	if f := r.Close(); f != fault(api.ErrShort, 3) {
		t.Errorf("Close: %v", f)
	}
	if got := r.Feed([]byte(whole[3:])); len(got) != 0 || r.Taken() != 3 || r.Close() != fault(api.ErrShort, 3) {
		t.Errorf("a closed Reader goes on: %v, %d, %v", got, r.Taken(), r.Fault())
	}
}

func TestReaderKeepsAndChangesNothing(t *testing.T) { // rule 4
	whole := framedText("abc") + framedText("defg")
	room := []byte(whole + "spare room")
	r := wire.NewReader("tt", 4)
	first := r.Feed(room[:20])
	second := r.Feed(room[20:len(whole)])
	if string(room) != whole+"spare room" {
		t.Error("Feed changed what it was given")
	}
	for i := range room {
		room[i] = '!'
	}
	_ = append(first, wire.Item{Text: "mine"})
	first[0].Num = 5
	if len(second) != 1 || second[0].Text != "defg" || first[0].Text != "abc" {
		t.Errorf("%v, %v", first, second)
	}
}

func TestReadersAreApart(t *testing.T) { // P2
	a, b := wire.NewReader("t", 9), wire.NewReader("t", 9)
	text := framedText("abcdefghi")
	for i := range len(text) {
		got := a.Feed([]byte{text[i]})
		if i%2 == 0 {
			b.Feed([]byte{0xff})
		}
		if whole := i == len(text)-1; whole != (len(got) == 1) {
			t.Errorf("byte %d: %v", i, got)
		}
	}
	if b.Fault() != fault(api.ErrLong, 0) || a.Close() != (api.Fault{}) {
		t.Errorf("%v, %v", a.Fault(), b.Fault())
	}
}

func TestSplit(t *testing.T) { // P3.3
	items, f := wire.Split(wire.Int(7)+wire.Text("a"), "it", 1)
	if !slices.Equal(items, []wire.Item{{Int: true, Num: 7}, {Text: "a"}}) || f != (api.Fault{}) {
		t.Errorf("%v, %v", items, f)
	}
	rows := []struct {
		text, plan string
		most       int
		want       api.Fault
	}{
		{"", "i", 0, fault(api.ErrShort, 0)},
		{wire.Text("ab"), "t", 1, fault(api.ErrLong, 0)},
		{"x", "", 0, fault(api.ErrTrail, 0)},
		{wire.Int(1) + wire.Int(2) + "x", "ii", 0, fault(api.ErrTrail, 16)},
		{wire.Int(1) + wire.Int(2)[:7], "ii", 0, fault(api.ErrShort, 15)},
		{wire.Int(1) + wire.Int(1) + "ab", "it", 1, fault(api.ErrPad, 17)},
		{wire.Int(1), "i?", 1, fault(api.ErrPlan, 1)},
	}
	for _, r := range rows {
		if items, f := wire.Split(r.text, r.plan, r.most); f != r.want || len(items) != 0 {
			t.Errorf("Split(%q, %q, %d) = %v, %v", r.text, r.plan, r.most, items, f)
		}
	}
}
