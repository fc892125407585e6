package nar_test

import (
	"math/rand"
	"slices"
	"strings"
	"testing"

	"depot/api"
	"depot/nar"
	"depot/tree"
	"depot/wire"
)

// told: what a parser tells of itself.
func told(p *nar.Parser) story {
	return story{taken: p.Taken(), held: p.Held(), depth: p.Depth(), whole: p.Whole(), fault: p.Fault()}
}

func parser(part bool) *nar.Parser {
	if part {
		return nar.NewPart()
	}
	return nar.NewParser()
}

// checkFeeding feeds a text in pieces of the lengths that cut answers, and holds the parser against the story of what it was fed.
func checkFeeding(t *testing.T, text string, part bool, cut func() int) {
	t.Helper()
	p := parser(part)
	for at := 0; at < len(text); {
		end := min(at+cut(), len(text))
		before := p.Taken()
		took := p.Feed([]byte(text[at:end]))
		at = end
		want, _ := storyOf(text[:at], part)
		if got := told(p); got != want || took != got.taken-before {
			t.Fatalf("behind %d bytes of %q: %+v, not %+v; took %d", at, text, got, want, took)
		}
	}
	checkClosing(t, p, text, part)
}

// checkClosing closes a parser that was fed a text.
func checkClosing(t *testing.T, p *nar.Parser, text string, part bool) {
	t.Helper()
	want, root := storyOf(text, part)
	if want.fault.Code == api.OK && !want.whole {
		want.fault = fault(api.ErrShort, len(text))
	}
	if want.fault.Code != api.OK {
		root = api.Node{}
	}
	for range 2 {
		n, f := p.Close()
		if f != want.fault || !tree.Equal(n, root) || told(p) != want {
			t.Fatalf("Close behind %q: %v, %v, not %v, %v", text, n, f, root, want.fault)
		}
		if p.Feed([]byte("\x00")) != 0 || told(p) != want {
			t.Fatal("a closed parser takes bytes")
		}
		scribble(&n)
	}
}

func TestRandomTexts(t *testing.T) { // P7.2, P7.3, P7.4, rule 6
	r := rand.New(rand.NewSource(72))
	met := map[api.Errno]int{}
	for i := range 6000 {
		n := randomTree(r, 3)
		text := archive(n)
		if i%8 > 0 {
			text = spoiled(r, n)
		}
		part := i%3 == 0
		checkFeeding(t, text, part, func() int { return r.Intn(40) })
		want, root := storyOf(text, false)
		if !want.whole && want.fault.Code == api.OK {
			want.fault = fault(api.ErrShort, len(text))
		}
		if want.fault.Code != api.OK {
			root = api.Node{}
		}
		met[want.fault.Code]++
		if got, f := nar.Parse(text); f != want.fault || !tree.Equal(got, root) {
			t.Fatalf("Parse(%q) = %v, %v, not %v", text, got, f, want.fault)
		}
	}
	for _, code := range []api.Errno{api.OK, api.ErrShort, api.ErrTrail, api.ErrLong, api.ErrPad, api.ErrToken, api.ErrTarget, api.ErrOrder, api.ErrEmpty, api.ErrByte, api.ErrDots} {
		if met[code] == 0 {
			t.Errorf("no text with the error %d", code)
		}
	}
}

func TestByteByByte(t *testing.T) { // P7.2, P7.3, rule 6
	r := rand.New(rand.NewSource(73))
	for i := range 60 {
		n := randomTree(r, 2)
		text := archive(n) + "more"
		if i%2 > 0 {
			text = spoiled(r, n)
		}
		checkFeeding(t, text, i%4 < 2, func() int { return 1 })
	}
}

func TestParseOfEachBeginning(t *testing.T) { // P7.3, P7.4
	text := archive(dir(in("a", exec("hi")), in("b", link("t")), in("c", dir())))
	for i := range len(text) {
		if n, f := nar.Parse(text[:i]); f != fault(api.ErrShort, i) || !tree.Equal(n, api.Node{}) {
			t.Errorf("the first %d bytes: %v", i, f)
		}
	}
	for _, more := range []string{"\x00", ")", text} {
		if n, f := nar.Parse(text + more); f != fault(api.ErrTrail, len(text)) || !tree.Equal(n, api.Node{}) {
			t.Errorf("with %q behind it: %v", more, f)
		}
	}
}

func TestExamples(t *testing.T) { // P7.3
	empty := archive(dir())
	if len(empty) != 96 {
		t.Error("an empty directory hasn't 96 bytes")
	}
	if _, f := nar.Parse(empty[:95]); f != fault(api.ErrShort, 95) {
		t.Errorf("the first 95: %v", f)
	}
	if _, f := nar.Parse(empty + "x"); f != fault(api.ErrTrail, 96) {
		t.Errorf("with a byte more: %v", f)
	}
	if _, f := nar.Parse(""); f != fault(api.ErrShort, 0) {
		t.Errorf("nothing: %v", f)
	}
	ahead := framed("depot-archive-1", "(", "type", "regular", "contents")
	if _, f := nar.Parse(ahead + wire.Int(1<<20+1)); f != fault(api.ErrLong, len(ahead)) {
		t.Errorf("a length of 2^20 + 1: %v", f)
	}
}

// everyWord is an archive's words in which each place of the grammar has a word; text are the places of those that aren't fixed.
func everyWord() (words []string, text []int) {
	n := dir(in("a", file("c")), in("b", exec("c")), in("l", link("t")), in("o", dir()))
	words = append([]string{"depot-archive-1"}, wordsOf(n)...)
	for i := range words {
		if i > 0 && (words[i-1] == "name" || words[i-1] == "contents" || words[i-1] == "target") {
			text = append(text, i)
		}
	}
	return words, text
}

func TestEachFixedWord(t *testing.T) { // P7.3
	words, text := everyWord()
	others := []string{"", "(", ")", "type", "regular", "executable", "contents", "symlink", "target", "directory", "entry", "name", "node", "depot-archive-1", "depot-archive-2", "Type", "typ", "types", "x"}
	for i := range words {
		at := len(framed(words[:i]...))
		for _, other := range others {
			may := other == words[i] || slices.Contains(text, i)
			switch words[i] {
			case "regular", "symlink", "directory":
				may = may || other == "regular" || other == "symlink" || other == "directory"
			case "entry":
				may = may || other == ")"
			case ")":
				// Only a directory's own end may be another entry: it stands behind `)` `)` or behind the word directory.
				behindAll := i >= 2 && words[i-1] == ")" && words[i-2] == ")"
				may = may || other == "entry" && (behindAll || words[i-1] == "directory")
			case "contents":
				may = may || other == "executable" && words[i-1] == "regular"
			case "executable":
				may = may || other == "contents"
			}
			if may {
				continue
			}
			spoilt := framed(append(slices.Clone(words[:i]), other)...)
			p := nar.NewParser()
			took := p.Feed([]byte(spoilt + framed(words[i+1:]...)))
			if p.Fault() != fault(api.ErrToken, at) || took != len(spoilt)-1 || p.Held() != len(spoilt)-1-at {
				t.Errorf("%q in the place %d of %q: %v, %d bytes, %d held", other, i, words[i], p.Fault(), took, p.Held())
			}
			// It isn't refused ahead of its last byte.
			if _, f := nar.Parse(spoilt[:len(spoilt)-1]); f != fault(api.ErrShort, len(spoilt)-1) {
				t.Errorf("%q in the place %d of %q, but for its last byte: %v", other, i, words[i], f)
			}
		}
	}
}

func TestEachPaddingByte(t *testing.T) { // P7.3
	words, _ := everyWord()
	at := 0
	for i, w := range words {
		text := framed(words[:i+1]...)
		for j := at + 8 + len(w); j < len(text); j++ {
			for _, b := range []string{"\x01", "\x80", "\xff"} {
				p := nar.NewParser()
				took := p.Feed([]byte(text[:j] + b + text[j+1:] + "more"))
				if p.Fault() != fault(api.ErrPad, j) || took != j || p.Held() != j-at || p.Taken() != j {
					t.Errorf("byte %d: %v, took %d, held %d", j, p.Fault(), took, p.Held())
				}
			}
		}
		at = len(text)
	}
	// The padding is looked at ahead of the word.
	if _, f := nar.Parse(wire.Int(1) + "x\x00\x00\x00\x00\x00\x00\x01"); f != fault(api.ErrPad, 15) {
		t.Errorf("a bad word with bad padding: %v", f)
	}
}

func TestEachLength(t *testing.T) { // P7.3
	words, _ := everyWord()
	for i := range words {
		ahead := framed(words[:i]...)
		for _, length := range []uint64{1<<20 + 1, 1 << 21, 1 << 32, 1 << 40, 1 << 56, 1 << 63, 1<<64 - 1} {
			p := nar.NewParser()
			if took := p.Feed([]byte(ahead + wire.Int(length)[:7])); took != len(ahead)+7 || p.Fault() != (api.Fault{}) {
				t.Errorf("a length of %d at %d: seven bytes: %v", length, len(ahead), p.Fault())
			}
			if took := p.Feed([]byte(wire.Int(length)[7:] + "x")); took != 0 || p.Fault() != fault(api.ErrLong, len(ahead)) {
				t.Errorf("a length of %d at %d: %v", length, len(ahead), p.Fault())
			}
			if p.Held() != 7 || p.Taken() != len(ahead)+7 {
				t.Errorf("a length of %d: %d held of %d", length, p.Held(), p.Taken())
			}
		}
		p := nar.NewPart()
		if took := p.Feed([]byte(ahead + wire.Int(1<<20) + "x")); took != len(ahead)+9 || p.Fault() != (api.Fault{}) || p.Held() != 9 {
			t.Errorf("a length of 2^20 at %d: %v", len(ahead), p.Fault())
		}
	}
}

func TestDepth(t *testing.T) { // P7.2, P7.3
	level := framed("(", "type", "directory", "entry", "(", "name", "d", "node")
	text := framed("depot-archive-1")
	p := nar.NewPart()
	p.Feed([]byte(text))
	for i := range 32 {
		if p.Feed([]byte(level[:15])); p.Depth() != i {
			t.Errorf("ahead of the last byte of a node: %d, not %d", p.Depth(), i)
		}
		if p.Feed([]byte(level[15:])); p.Depth() != i+1 {
			t.Errorf("in %d nodes: %d", i+1, p.Depth())
		}
		text += level
	}
	if p.Feed([]byte(framed("("))); p.Fault() != fault(api.ErrDeep, len(text)) || p.Depth() != 32 || p.Held() != 15 {
		t.Errorf("too deep: %v, %d open, %d held", p.Fault(), p.Depth(), p.Held())
	}
	if _, f := nar.Parse(text + framed(")")); f != fault(api.ErrToken, len(text)) {
		t.Errorf("no node where it would be too deep: %v", f)
	}
	if n, f := nar.Parse(archive(nested(31, dir()))); f != (api.Fault{}) || !tree.Equal(n, nested(31, dir())) {
		t.Errorf("32 nodes: %v", f)
	}
	q := nar.NewParser()
	whole := archive(nested(31, dir()))
	q.Feed([]byte(whole[:len(whole)-16*63]))
	for i := range 63 { // one ) of the node in the depth, then of an entry and of its directory, 31 times
		if want := 32 - (i+1)/2; q.Depth() != want {
			t.Errorf("behind %d of the last words: %d, not %d", i, q.Depth(), want)
		}
		q.Feed([]byte(framed(")")))
	}
	if q.Depth() != 0 || !q.Whole() {
		t.Errorf("behind the last word: %d", q.Depth())
	}
	// The 32 nodes are those on the way, not all.
	wide := dir(in("a", nested(30, file(""))), in("b", nested(30, file(""))))
	if n, f := nar.Parse(archive(wide)); f != (api.Fault{}) || !tree.Equal(n, wide) {
		t.Errorf("62 nodes, 32 on a way: %v", f)
	}
}

func TestTargets(t *testing.T) { // P7.3
	ahead := framed("depot-archive-1", "(", "type", "symlink", "target")
	for _, target := range []string{"", "\x00", "a\x00", "\x00a", strings.Repeat("a", 500) + "\x00"} {
		text := ahead + framed(target)
		p := nar.NewParser()
		if p.Feed([]byte(text)); p.Fault() != fault(api.ErrTarget, len(ahead)) || p.Taken() != len(text)-1 {
			t.Errorf("%q: %v, taken %d", target, p.Fault(), p.Taken())
		}
	}
	for _, target := range []string{"/", ".", "..", " ", strings.Repeat("a", 5000)} {
		if n, f := nar.Parse(ahead + framed(target, ")")); f != (api.Fault{}) || n.Text != target || n.Kind != api.Link {
			t.Errorf("%q: %v", target, f)
		}
	}
}

func TestNames(t *testing.T) { // P7.3
	first := framed("depot-archive-1", "(", "type", "directory", "entry", "(", "name")
	second := framed("depot-archive-1", "(", "type", "directory", "entry", "(", "name", "b", "node", "(", "type", "directory",
		"entry", "(", "name", "z", "node", "(", "type", "directory", ")", ")", ")", ")", "entry", "(", "name")
	rows := []struct {
		ahead, name string
		code        api.Errno
	}{
		{first, "", api.ErrEmpty},
		{first, ".", api.ErrDots},
		{first, "..", api.ErrDots},
		{first, "a/b", api.ErrByte},
		{first, "a\x00", api.ErrByte},
		{first, strings.Repeat("n", 256), api.ErrLong},
		{first, strings.Repeat("/", 256), api.ErrLong},
		{first, strings.Repeat("n", 255), api.OK},
		{first, "...", api.OK},
		{second, "a", api.ErrOrder},
		{second, "b", api.ErrOrder},
		{second, "B", api.ErrOrder},
		{second, "b\x01", api.OK},
		{second, "c", api.OK},
		{second, "\xff", api.OK},
		{second, "", api.ErrEmpty},
		{second, ".", api.ErrDots},
		{second, "a/", api.ErrByte},
		{second, strings.Repeat("a", 256), api.ErrLong},
	}
	for _, r := range rows {
		text := r.ahead + framed(r.name)
		want, taken := fault(r.code, len(r.ahead)), len(text)-1
		if r.code == api.OK {
			want, taken = api.Fault{}, len(text)
		}
		p := nar.NewParser()
		if p.Feed([]byte(text)); p.Fault() != want || p.Taken() != taken {
			t.Errorf("the name %q: %v, taken %d", r.name, p.Fault(), p.Taken())
		}
	}
}

func TestBrim(t *testing.T) { // P7.2, P7.3
	largest := archive(file(strings.Repeat("x", api.MaxArchive-112)))
	if len(largest) != api.MaxArchive {
		t.Fatal("not the largest")
	}
	if n, f := nar.Parse(largest); f != (api.Fault{}) || len(n.Text) != api.MaxArchive-112 {
		t.Errorf("the largest: %v", f)
	}
	if _, f := nar.Parse(largest + "\x00"); f != fault(api.ErrTrail, api.MaxArchive) {
		t.Errorf("a byte behind the largest: %v", f)
	}
	p := nar.NewPart()
	if took := p.Feed([]byte(largest + "more")); took != api.MaxArchive || p.Fault() != (api.Fault{}) || !p.Whole() {
		t.Errorf("a part: took %d, %v", took, p.Fault())
	}
	ahead := framed("depot-archive-1", "(", "type", "regular", "contents")
	for _, length := range []int{api.MaxArchive - 111, api.MaxArchive - 96, api.MaxArchive - 95, api.MaxArchive} {
		text := ahead + framed(strings.Repeat("x", length), ")")
		for _, part := range []bool{false, true} {
			p := parser(part)
			took := p.Feed([]byte(text))
			want, _ := storyOf(text, part)
			if took != api.MaxArchive || p.Fault() != fault(api.ErrBig, api.MaxArchive) || told(p) != want {
				t.Errorf("contents of %d bytes: %+v, not %+v", length, told(p), want)
			}
			if n, f := p.Close(); f != fault(api.ErrBig, api.MaxArchive) || !tree.Equal(n, api.Node{}) {
				t.Errorf("contents of %d bytes: %v", length, f)
			}
		}
	}
}

func TestBigAheadOfOthers(t *testing.T) { // P7.3
	// The byte that is one too many would be a bad padding byte, the eighth of a length that is too long, the last of a bad word.
	ahead := func(room int) string {
		return framed("depot-archive-1", "(", "type", "regular", "contents", strings.Repeat("x", api.MaxArchive-96-room))
	}
	padding := framed("depot-archive-1", "(", "type", "regular", "contents") + wire.Int(api.MaxArchive-95) + strings.Repeat("x", api.MaxArchive-95)
	rows := []struct {
		name, text string
		held       int
	}{
		{"padding", padding + "\x01", api.MaxArchive - 88},
		{"length", ahead(0) + "\xff\xff\xff\xff\xff\xff\xff\xff", 0},
		{"word", ahead(8) + framed("x"), 8},
	}
	for _, r := range rows {
		p := nar.NewParser()
		p.Feed([]byte(r.text))
		if p.Fault() != fault(api.ErrBig, api.MaxArchive) || p.Held() != r.held {
			t.Errorf("%s: %v, held %d", r.name, p.Fault(), p.Held())
		}
	}
	// The last byte that fits is still looked at.
	if _, f := nar.Parse(ahead(8) + "\xff\xff\xff\xff\xff\xff\xff\xff"); f != fault(api.ErrLong, api.MaxArchive-8) {
		t.Errorf("the last eight bytes: %v", f)
	}
	if _, f := nar.Parse(ahead(16) + framed("x")); f != fault(api.ErrToken, api.MaxArchive-16) {
		t.Errorf("the last word: %v", f)
	}
}

func TestPart(t *testing.T) { // P7.2
	text := archive(dir(in("a", file("x"))))
	for _, cut := range []int{0, 1, 8, len(text) - 1, len(text)} {
		p := nar.NewPart()
		first := p.Feed([]byte(text[:cut]))
		second := p.Feed([]byte(text[cut:] + text))
		if first != cut || second != len(text)-cut || !p.Whole() || p.Taken() != len(text) || p.Held() != 0 {
			t.Errorf("cut at %d: %d and %d", cut, first, second)
		}
		if p.Feed([]byte("x")) != 0 || p.Feed(nil) != 0 || p.Fault() != (api.Fault{}) {
			t.Errorf("behind the archive: %v", p.Fault())
		}
		if n, f := p.Close(); f != (api.Fault{}) || !tree.Equal(n, dir(in("a", file("x")))) {
			t.Errorf("cut at %d: %v", cut, f)
		}
	}
	p := nar.NewPart()
	p.Feed([]byte(text[:len(text)-1]))
	if p.Whole() {
		t.Error("whole ahead of the last byte")
	}
	if _, f := p.Close(); f != fault(api.ErrShort, len(text)-1) {
		t.Errorf("a part that isn't whole: %v", f)
	}
}

func TestBehindAFault(t *testing.T) { // P7.2
	for _, part := range []bool{false, true} {
		p := parser(part)
		p.Feed([]byte(framed("depot-archive-1")))
		if took := p.Feed([]byte(framed("x", "("))); took != 15 {
			t.Errorf("took %d", took)
		}
		for range 2 {
			if p.Feed([]byte("\x00")) != 0 || p.Feed([]byte(framed("("))) != 0 || p.Fault() != fault(api.ErrToken, 24) || p.Taken() != 39 || p.Held() != 15 {
				t.Errorf("behind a fault: %v", told(p))
			}
			if n, f := p.Close(); f != fault(api.ErrToken, 24) || !tree.Equal(n, api.Node{}) {
				t.Errorf("Close: %v", f)
			}
		}
	}
}

func TestTrailLeavesWhole(t *testing.T) { // P7.2, P7.3
	text := archive(file("x"))
	p := nar.NewParser()
	if took := p.Feed([]byte(text + "\x00\x00")); took != len(text) || !p.Whole() || p.Held() != 0 || p.Depth() != 0 {
		t.Errorf("took %d: %+v", took, told(p))
	}
	if n, f := p.Close(); f != fault(api.ErrTrail, len(text)) || !tree.Equal(n, api.Node{}) || !p.Whole() {
		t.Errorf("Close: %v, %v", n, f)
	}
}

func TestClose(t *testing.T) { // P7.2, P7.3
	text := archive(dir(in("a", dir(in("b", file("x"))))))
	p := nar.NewParser()
	p.Feed([]byte(text[:50]))
	if _, f := p.Close(); f != fault(api.ErrShort, 50) || p.Fault() != f || p.Held() != 10 || p.Depth() != 1 || p.Whole() {
		t.Errorf("Close in the middle: %v, %+v", f, told(p))
	}
	if p.Feed([]byte(text[50:])) != 0 || p.Taken() != 50 {
		t.Error("a closed parser takes bytes")
	}
	if _, f := p.Close(); f != fault(api.ErrShort, 50) {
		t.Errorf("Close again: %v", f)
	}
	q := nar.NewParser()
	q.Feed([]byte(text))
	first, f := q.Close()
	if f != (api.Fault{}) || q.Feed([]byte("x")) != 0 || q.Fault() != (api.Fault{}) {
		t.Errorf("behind Close: %v", q.Fault())
	}
	scribble(&first)
	second, f := q.Close()
	if want := dir(in("a", dir(in("b", file("x"))))); f != (api.Fault{}) || !tree.Equal(second, want) {
		t.Errorf("Close again: %v, %v", second, f)
	}
}

func TestParserKeepsAndChangesNothing(t *testing.T) { // rule 4
	n := dir(in("name", file("some contents")), in("other", link("target")))
	text := archive(n)
	room := []byte(text + "spare room")
	p := nar.NewParser()
	for at := 0; at < len(text); at += 5 {
		p.Feed(room[at:min(at+5, len(text))])
	}
	if string(room) != text+"spare room" {
		t.Error("Feed changed what it was given")
	}
	for i := range room {
		room[i] = '!'
	}
	if got, f := p.Close(); f != (api.Fault{}) || !tree.Equal(got, n) {
		t.Errorf("%v, %v", got, f)
	}
}

func TestParsersAreApart(t *testing.T) { // P2
	text := archive(dir(in("a", file("x"))))
	a, b := nar.NewParser(), nar.NewParser()
	for i := range len(text) {
		a.Feed([]byte{text[i]})
		b.Feed([]byte{0xff})
	}
	if _, f := a.Close(); f != (api.Fault{}) || b.Fault() != fault(api.ErrLong, 0) {
		t.Errorf("%v, %v", f, b.Fault())
	}
}
