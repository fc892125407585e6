package scan_test

import (
	"crypto/sha256"
	"fmt"
	"math/rand"
	"slices"
	"strings"
	"testing"

	"depot/api"
	"depot/scan"
)

// rewritten is a second reading of P14.3, word by word.
func rewritten(text, from, to string) (string, []int) {
	var b strings.Builder
	var places []int
	for at := 0; at < len(text); {
		if at+32 <= len(text) && text[at:at+32] == from {
			b.WriteString(to)
			places = append(places, at)
			at += 32
		} else {
			b.WriteByte(text[at])
			at++
		}
	}
	return b.String(), places
}

func newRewriter(t *testing.T, from, to string) *scan.Rewriter {
	t.Helper()
	r, code := scan.NewRewriter(from, to)
	if r == nil || code != api.OK {
		t.Fatalf("NewRewriter(%q, %q) = %v, %d", from, to, r, code)
	}
	return r
}

// holdRewriter feeds pieces and closes, and holds the answers against those of the whole text.
func holdRewriter(t *testing.T, from, to string, list []string) {
	t.Helper()
	want, wantPlaces := rewritten(strings.Join(list, ""), from, to)
	r := newRewriter(t, from, to)
	out, fed := "", 0
	for _, piece := range list {
		out += r.Feed([]byte(piece))
		fed += len(piece)
		if len(out) > fed || !strings.HasPrefix(want, out) {
			t.Fatalf("behind %d bytes of %q: %q, not as %q begins", fed, list, out, want)
		}
		if r.Taken() != fed {
			t.Fatalf("Taken = %d, not %d", r.Taken(), fed)
		}
	}
	out += r.Close()
	if out != want || !slices.Equal(r.Places(), wantPlaces) || r.Taken() != fed {
		t.Fatalf("%q from %q to %q: %q, %v, Taken %d, not %q, %v, %d", list, from, to, out, r.Places(), r.Taken(), want, wantPlaces, fed)
	}
	holdClosed(t, r)
}

// holdClosed: a Rewriter that is closed takes nothing and has nothing more to say.
func holdClosed(t *testing.T, r *scan.Rewriter) {
	t.Helper()
	taken, places := r.Taken(), r.Places()
	for _, more := range []string{"", "more", ones + letters} {
		if out := r.Feed([]byte(more)); out != "" {
			t.Fatalf("Feed behind Close: %q", out)
		}
		if out := r.Close(); out != "" {
			t.Fatalf("Close behind Close: %q", out)
		}
		if r.Taken() != taken || !slices.Equal(r.Places(), places) {
			t.Fatalf("behind Close: Taken = %d, Places = %v, not %d, %v", r.Taken(), r.Places(), taken, places)
		}
	}
}

func TestNewRewriter(t *testing.T) { // P14.2
	for _, wrong := range wrongHashes() {
		for _, pair := range [][2]string{{wrong, letters}, {letters, wrong}, {wrong, wrong}, {wrong, ""}} {
			if r, code := scan.NewRewriter(pair[0], pair[1]); r != nil || code != api.ErrHash {
				t.Errorf("NewRewriter(%q, %q) = %v, %d", pair[0], pair[1], r, code)
			}
			if text, places, code := scan.Rewrite("x"+letters, pair[0], pair[1]); text != "" || len(places) != 0 || code != api.ErrHash {
				t.Errorf("Rewrite(%q, %q) = %q, %v, %d", pair[0], pair[1], text, places, code)
			}
		}
	}
	r := newRewriter(t, letters, ones)
	if r.Taken() != 0 || len(r.Places()) != 0 || r.Close() != "" {
		t.Error("a new Rewriter")
	}
	holdClosed(t, r)
}

func TestRewrite(t *testing.T) { // P14.3
	half := strings.Repeat("1", 16) + strings.Repeat("2", 16)
	rows := []struct {
		text, from, to, want string
		places               []int
	}{
		{"", ones, letters, "", nil},
		{"x", ones, letters, "x", nil},
		{ones, ones, letters, letters, []int{0}},
		{"x" + ones + "y", ones, letters, "x" + letters + "y", []int{1}},
		{ones[:31], ones, letters, ones[:31], nil},
		{ones + "1", ones, letters, letters + "1", []int{0}},
		{ones + ones[:31], ones, letters, letters + ones[:31], []int{0}},
		{ones + ones, ones, letters, letters + letters, []int{0, 32}},
		{"x" + ones + "1y" + ones, ones, letters, "x" + letters + "1y" + letters, []int{1, 35}},
		{"e" + ones[1:] + "e" + ones, ones, letters, "e" + ones[1:] + "e" + letters, []int{33}},
		{"21" + ones, ones, letters, "2" + letters + "1", []int{1}},
		{ones, ones, ones, ones, []int{0}},
		{letters, ones, letters, letters, nil},
		{half + half[16:], half, ones, ones + half[16:], []int{0}},  // what is written isn't looked at again
		{half[:16] + half, half, ones, half[:16] + ones, []int{16}}, // nor what came ahead of it
		{letters[:31] + letters, letters, ones, letters[:31] + ones, []int{31}},
		{letters[:20] + letters + letters[20:], letters, ones, letters[:20] + ones + letters[20:], []int{20}},
	}
	for _, r := range rows {
		text, places, code := scan.Rewrite(r.text, r.from, r.to)
		if text != r.want || !slices.Equal(places, r.places) || code != api.OK {
			t.Errorf("Rewrite(%q, %q, %q) = %q, %v, %d, not %q, %v", r.text, r.from, r.to, text, places, code, r.want, r.places)
		}
	}
}

func TestRewriterCutAnywhere(t *testing.T) { // P14.2, rule 6
	text := "x" + ones[:20] + "-" + ones + "1" + ones + "y" + ones[:31]
	for i := range len(text) + 1 {
		for j := i; j <= len(text); j++ {
			holdRewriter(t, ones, letters, []string{text[:i], text[i:j], text[j:]})
		}
	}
	holdRewriter(t, ones, letters, strings.Split(text, ""))
}

func TestRewriterOfRandomTexts(t *testing.T) { // P1, P2, P14.2, P14.3
	r := rand.New(rand.NewSource(3))
	all := overlapping()
	for range 3000 {
		from, to := all[r.Intn(len(all))], all[r.Intn(len(all))]
		text := randomText(r, append(all, from, from, from, from, from, from, from))
		holdRewriter(t, from, to, pieces(r, text))
		want, wantPlaces := rewritten(text, from, to)
		got, places, code := scan.Rewrite(text, from, to)
		if got != want || !slices.Equal(places, wantPlaces) || code != api.OK {
			t.Fatalf("Rewrite(%q, %q, %q) = %q, %v, %d, not %q, %v", text, from, to, got, places, code, want, wantPlaces)
		}
	}
}

func TestRewriteOfALongText(t *testing.T) { // P1: the time goes by the bytes
	text := strings.Repeat("1", 1<<22) + "2"
	from := strings.Repeat("1", 31) + "2"
	got, places, code := scan.Rewrite(text, from, letters)
	if got != text[:1<<22-31]+letters || !slices.Equal(places, []int{1<<22 - 31}) || code != api.OK {
		t.Errorf("%d bytes, %v, %d", len(got), places, code)
	}
	got, places, code = scan.Rewrite(text, ones, letters)
	if got != strings.Repeat(letters, 1<<17)+"2" || len(places) != 1<<17 || code != api.OK {
		t.Errorf("%d bytes, %d places, %d", len(got), len(places), code)
	}
}

func TestRewriterKeepsNothing(t *testing.T) { // rule 4
	r := newRewriter(t, letters, ones)
	room := []byte("xxxx" + letters[:20] + "room behind it")
	out := r.Feed(room[4:24])
	if string(room) != "xxxx"+letters[:20]+"room behind it" {
		t.Errorf("Feed changed its piece: %q", room)
	}
	for i := range room {
		room[i] = '1'
	}
	out += r.Feed([]byte(letters[20:] + "e" + letters))
	out += r.Close()
	if out != ones+"e"+ones {
		t.Errorf("rewritten: %q", out)
	}
	first := r.Places()
	for i := range first[:cap(first)] {
		first[:cap(first)][i] = -1
	}
	if !slices.Equal(r.Places(), []int{0, 33}) {
		t.Errorf("Places = %v", r.Places())
	}
}

func TestRewritersGoOnByThemselves(t *testing.T) { // P2
	a, b := newRewriter(t, ones, letters), newRewriter(t, ones, letters)
	outA := a.Feed([]byte(ones[:16]))
	outB := b.Feed([]byte(ones[16:]))
	outA += a.Feed([]byte(ones[16:])) + a.Close()
	outB += b.Close()
	if outA != letters || outB != ones[16:] || len(a.Places()) != 1 || len(b.Places()) != 0 {
		t.Errorf("%q, %q", outA, outB)
	}
}

// modulo is a second reading of P14.4.
func modulo(text, self string) (api.Digest, []int) {
	told, places := rewritten(text, self, strings.Repeat("0", 32))
	for _, place := range places {
		told += fmt.Sprintf("|%d", place)
	}
	return sha256.Sum256([]byte(told)), places
}

func holdModulo(t *testing.T, text, self string) {
	t.Helper()
	want, wantPlaces := modulo(text, self)
	d, places, code := scan.Modulo(text, self)
	if d != want || !slices.Equal(places, wantPlaces) || code != api.OK {
		t.Errorf("Modulo(%q, %q) = %x, %v, %d, not %x, %v", text, self, d, places, code, want, wantPlaces)
	}
}

func TestModulo(t *testing.T) { // P14.4
	noughts := strings.Repeat("0", 32)
	if d, places, code := scan.Modulo("a"+ones, ones); d != sha256.Sum256([]byte("a"+noughts+"|1")) || !slices.Equal(places, []int{1}) || code != api.OK {
		t.Errorf("Modulo = %x, %v, %d", d, places, code)
	}
	if d, places, code := scan.Modulo("a", ones); d != sha256.Sum256([]byte("a")) || len(places) != 0 || code != api.OK {
		t.Errorf("Modulo = %x, %v, %d", d, places, code)
	}
	if d, places, code := scan.Modulo(ones+"e"+ones, ones); d != sha256.Sum256([]byte(noughts+"e"+noughts+"|0|33")) || !slices.Equal(places, []int{0, 33}) || code != api.OK {
		t.Errorf("Modulo = %x, %v, %d", d, places, code)
	}
	for _, self := range []string{ones, letters, noughts} {
		for _, text := range []string{"", "x", self, noughts, self + noughts, noughts + self, "x" + self + "1y" + self, strings.Repeat("ab "+self, 1000)} {
			holdModulo(t, text, self)
		}
	}
	r := rand.New(rand.NewSource(4))
	all := overlapping()
	for range 1000 {
		holdModulo(t, randomText(r, all), all[r.Intn(len(all))])
	}
}

func TestModuloLeavesTheOwnHashOut(t *testing.T) { // P14.4: one digest whichever hash a text has for itself, another where that stands elsewhere or the noughts stand there
	text := func(h string) string { return "x " + h + " y " + h + "/z" }
	a, _, _ := scan.Modulo(text(ones), ones)
	b, _, _ := scan.Modulo(text(letters), letters)
	if a != b {
		t.Error("the digest hangs on the own hash")
	}
	noughts := strings.Repeat("0", 32)
	c, places, code := scan.Modulo(text(noughts), ones)
	if a == c || len(places) != 0 || code != api.OK {
		t.Error("noughts that stood there aren't told apart")
	}
	d, _, _ := scan.Modulo(text(letters), ones)
	if a == d {
		t.Error("another hash is left out too")
	}
}

func TestModuloRefuses(t *testing.T) { // P14.4
	for _, wrong := range wrongHashes() {
		if d, places, code := scan.Modulo("x"+wrong, wrong); d != (api.Digest{}) || len(places) != 0 || code != api.ErrHash {
			t.Errorf("Modulo(%q) = %x, %v, %d", wrong, d, places, code)
		}
	}
}
