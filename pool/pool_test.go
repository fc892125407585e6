package pool_test

import (
	"bytes"
	"crypto/sha256"
	"math/rand"
	"slices"
	"strings"
	"testing"

	"depot/api"
	"depot/pool"
)

func file(text string) api.Node { return api.Node{Kind: api.File, Text: text} }

func exec(text string) api.Node { return api.Node{Kind: api.File, Exec: true, Text: text} }

func link(target string) api.Node { return api.Node{Kind: api.Link, Text: target} }

func dir(kids ...api.Entry) api.Node { return api.Node{Kind: api.Dir, Kids: kids} }

func in(name string, n api.Node) api.Entry { return api.Entry{Name: name, Node: n} }

// files: a directory with a file for each of the texts, by the names a, b, ..
func files(texts ...string) api.Node {
	n := dir()
	for i, text := range texts {
		n.Kids = append(n.Kids, in(string(rune('a'+i)), file(text)))
	}
	return n
}

// digest is the library's.
func digest(text string) api.Digest { return sha256.Sum256([]byte(text)) }

// model is what the document says of a pool: how many holders each text has; with none it isn't there.
type model map[string]int

func (m model) stats() pool.Stats {
	var s pool.Stats
	for text, holders := range m {
		s.Texts++
		s.Unique += len(text)
		s.Total += holders * len(text)
	}
	return s
}

func (m model) digests() []api.Digest {
	var list []api.Digest
	for text := range m {
		list = append(list, digest(text))
	}
	slices.SortFunc(list, func(a, b api.Digest) int { return bytes.Compare(a[:], b[:]) })
	return list
}

func (m model) copied() model {
	other := model{}
	for text, holders := range m {
		other[text] = holders
	}
	return other
}

func (m model) put(text string) { m[text]++ }

func (m model) drop(text string) api.Errno {
	if m[text] == 0 {
		return api.ErrMissing
	}
	m[text]--
	if m[text] == 0 {
		delete(m, text)
	}
	return api.OK
}

// texts: the contents of a tree's files, in the order of the walk.
func texts(n api.Node) []string {
	if n.Kind == api.File {
		return []string{n.Text}
	}
	var list []string
	for _, kid := range n.Kids {
		list = append(list, texts(kid.Node)...)
	}
	return list
}

// holdAgainst asks the pool everything, of the model's texts and of others, and holds the answers against the model.
func holdAgainst(t *testing.T, p *pool.Pool, want model, others ...string) {
	t.Helper()
	stats := want.stats()
	if got := p.Count(); got != stats {
		t.Fatalf("Count = %v, not %v", got, stats)
	}
	if got := p.Digests(); !slices.Equal(got, want.digests()) {
		t.Fatalf("Digests = %x, not %x", got, want.digests())
	}
	share, code := p.Share()
	if stats.Total == 0 && (share != 0 || code != api.ErrZero) {
		t.Fatalf("Share of %v = %v, %d", stats, share, code)
	}
	if stats.Total > 0 && (share != float64(stats.Unique)/float64(stats.Total) || code != api.OK) {
		t.Fatalf("Share of %v = %v, %d", stats, share, code)
	}
	for text, holders := range want {
		got, code := p.Get(digest(text))
		if got != text || code != api.OK || p.Holders(digest(text)) != holders {
			t.Fatalf("%.20q: Get = %.20q, %d, Holders = %d, not %d", text, got, code, p.Holders(digest(text)), holders)
		}
	}
	for _, text := range others {
		if want[text] > 0 {
			continue
		}
		got, code := p.Get(digest(text))
		if got != "" || code != api.ErrMissing || p.Holders(digest(text)) != 0 {
			t.Fatalf("%.20q: Get = %.20q, %d, Holders = %d", text, got, code, p.Holders(digest(text)))
		}
	}
}

// filled: a pool into which these texts were put.
func filled(t *testing.T, texts ...string) *pool.Pool {
	t.Helper()
	p := pool.New()
	for _, text := range texts {
		if d, code := p.Put(text); d != digest(text) || code != api.OK {
			t.Fatalf("Put(%.20q) = %x, %d", text, d, code)
		}
	}
	return p
}

func TestNew(t *testing.T) { // P12.1
	p, q := pool.New(), pool.New()
	holdAgainst(t, p, nil, "", "a")
	p.Put("a")
	holdAgainst(t, q, nil, "", "a")
}

func TestPut(t *testing.T) { // P12.1, P12.3
	p := pool.New()
	want := model{}
	for _, text := range []string{"abc", "", "abc", "ab", "\x00", "abc", "", "\xff\x00\xff", strings.Repeat("x", 1000)} {
		if d, code := p.Put(text); d != digest(text) || code != api.OK {
			t.Errorf("Put(%.20q) = %x, %d", text, d, code)
		}
		want.put(text)
		holdAgainst(t, p, want, "", "ab", "x")
	}
	if got := p.Count(); got != (pool.Stats{Texts: 6, Unique: 1009, Total: 1015}) {
		t.Errorf("Count = %v", got)
	}
}

func TestPutOfLongTexts(t *testing.T) { // P12.1
	most := strings.Repeat("x", api.MaxArchive)
	p := filled(t, "a")
	for _, text := range []string{most + "x", most + most} {
		if d, code := p.Put(text); d != (api.Digest{}) || code != api.ErrBig {
			t.Errorf("Put of %d bytes = %x, %d", len(text), d, code)
		}
		holdAgainst(t, p, model{"a": 1}, text)
	}
	if d, code := p.Put(most); d != digest(most) || code != api.OK {
		t.Errorf("Put of MaxArchive bytes = %x, %d", d, code)
	}
	holdAgainst(t, p, model{"a": 1, most: 1})
}

func TestGetAndDropOfWhatIsNotThere(t *testing.T) { // P12.2
	for _, d := range []api.Digest{{}, digest("b"), {0: 0xff, 31: 0xff}} {
		p := filled(t, "a", "a")
		if text, code := p.Get(d); text != "" || code != api.ErrMissing {
			t.Errorf("Get = %q, %d", text, code)
		}
		if code := p.Drop(d); code != api.ErrMissing {
			t.Errorf("Drop = %d", code)
		}
		if n := p.Holders(d); n != 0 {
			t.Errorf("Holders = %d", n)
		}
		holdAgainst(t, p, model{"a": 2})
	}
}

func TestDrop(t *testing.T) { // P12.2, P12.3
	p := filled(t, "aa", "b", "aa", "", "aa", "b")
	want := model{"aa": 3, "b": 2, "": 1}
	for _, text := range []string{"aa", "", "", "b", "aa", "b", "b", "aa", "aa"} {
		code := want.drop(text)
		if got := p.Drop(digest(text)); got != code {
			t.Errorf("Drop of %q = %d, not %d", text, got, code)
		}
		holdAgainst(t, p, want, "", "aa", "b")
	}
	holdAgainst(t, p, nil)
	p.Put("aa") // what is gone may come again
	holdAgainst(t, p, model{"aa": 1}, "", "b")
}

func TestShare(t *testing.T) { // P12.3
	rows := []struct {
		texts []string
		want  float64
		code  api.Errno
	}{
		{nil, 0, api.ErrZero},
		{[]string{"", ""}, 0, api.ErrZero}, // held, but of no bytes
		{[]string{"a"}, 1, api.OK},
		{[]string{"a", "bc"}, 1, api.OK},
		{[]string{"a", "a"}, 0.5, api.OK},
		{[]string{"abc", "abc", "xy"}, 0.625, api.OK},
		{[]string{"a", "a", "a", ""}, 1.0 / 3, api.OK},
	}
	for _, r := range rows {
		if got, code := filled(t, r.texts...).Share(); got != r.want || code != r.code {
			t.Errorf("Share of %q = %v, %d", r.texts, got, code)
		}
	}
}

func TestDigests(t *testing.T) { // P12.3, rule 4
	p := pool.New()
	want := model{}
	for i := range 300 {
		text := strings.Repeat("q", i)
		p.Put(text)
		want.put(text)
	}
	list, other := p.Digests(), p.Digests()
	if !slices.Equal(list, want.digests()) {
		t.Error("not all, or not rising")
	}
	clear(list[:cap(list)])
	if !slices.Equal(other, want.digests()) || !slices.Equal(p.Digests(), want.digests()) {
		t.Error("answers share memory")
	}
}

func TestFork(t *testing.T) { // P12.3
	p := filled(t, "a", "b", "b")
	f := p.Fork()
	g := f.Fork()
	p.Put("a")
	p.Drop(digest("b"))
	f.Drop(digest("a"))
	f.Put("ccc")
	g.PutTree(files("b", "dd"))
	holdAgainst(t, p, model{"a": 2, "b": 1}, "ccc", "dd")
	holdAgainst(t, f, model{"b": 2, "ccc": 1}, "a", "dd")
	holdAgainst(t, g, model{"a": 1, "b": 3, "dd": 1}, "ccc")
	g.DropTree(files("a", "b"))
	p.PutTree(file("ccc"))
	holdAgainst(t, p, model{"a": 2, "b": 1, "ccc": 1}, "dd")
	holdAgainst(t, f, model{"b": 2, "ccc": 1}, "a", "dd")
	holdAgainst(t, g, model{"b": 2, "dd": 1}, "a", "ccc")
}

func TestTrees(t *testing.T) { // P12.4
	rows := []api.Node{
		file("x"), exec("x"), file(""), link("x"), dir(),
		files("x"), files("x", "x"), files("x", "y", "x", ""),
		dir(in("l", link("x")), in("m", exec("m")), in("n", dir(in("o", dir()), in("p", file("x")), in("q", exec("m"))))),
		dir(in("a", dir(in("b", dir(in("c", file("deep")), in("d", link("l")))), in("e", file("x")))), in("f", file("deep"))),
		file(strings.Repeat("x", api.MaxArchive-112)),
	}
	for i, n := range rows {
		p := filled(t, "x", "z")
		want := model{"x": 1, "z": 1}
		for range 2 {
			if code := p.PutTree(n); code != api.OK {
				t.Errorf("PutTree of %d = %d", i, code)
			}
			for _, text := range texts(n) {
				want.put(text)
			}
			holdAgainst(t, p, want, "l", "m", "")
		}
		for range 2 {
			if code := p.DropTree(n); code != api.OK {
				t.Errorf("DropTree of %d = %d", i, code)
			}
			for _, text := range texts(n) {
				want.drop(text)
			}
			holdAgainst(t, p, want, texts(n)...)
		}
		holdAgainst(t, p, model{"x": 1, "z": 1}, texts(n)...)
	}
}

func TestWrongTrees(t *testing.T) { // P12.4
	deep := file("x")
	for range api.MaxDepth {
		deep = dir(in("a", file("x")), in("d", deep))
	}
	rows := []struct {
		n    api.Node
		want api.Errno
	}{
		{api.Node{}, api.ErrKind},
		{api.Node{Kind: 4, Text: "x"}, api.ErrKind},
		{api.Node{Kind: api.File, Text: "x", Kids: []api.Entry{{}}}, api.ErrField},
		{link(""), api.ErrTarget},
		{dir(in("a", file("x")), in("a", file("x"))), api.ErrOrder},
		{dir(in("b", file("x")), in("a", file("x"))), api.ErrOrder},
		{dir(in("a", file("x")), in("..", file("x"))), api.ErrDots},
		{dir(in("a", file("x")), in("b", link("\x00"))), api.ErrTarget},
		{dir(in("a", file("none")), in("b", link(""))), api.ErrTarget}, // the tree is checked whole ahead of its contents
		{deep, api.ErrDeep},
		{file(strings.Repeat("x", api.MaxArchive-111)), api.ErrBig},
		{files("x", strings.Repeat("x", api.MaxArchive)), api.ErrBig},
	}
	for i, r := range rows {
		p := filled(t, "x", "x", "x")
		if code := p.PutTree(r.n); code != r.want {
			t.Errorf("PutTree of %d = %d, not %d", i, code, r.want)
		}
		if code := p.DropTree(r.n); code != r.want {
			t.Errorf("DropTree of %d = %d, not %d", i, code, r.want)
		}
		holdAgainst(t, p, model{"x": 3}, "none", "")
	}
}

func TestDropTreeOfWhatIsNotThere(t *testing.T) { // P12.4, rule 3
	rows := []api.Node{
		file("z"),
		files("z", "x"),
		files("x", "z"),
		files("x", "x", "y", "z"),
		files("x", "x", "x"), // held twice, not three times
		files("x", "y", "y"), // the second y finds the first one's gone
		dir(in("a", files("x", "y")), in("b", exec(""))), // nothing kept under the digest of the empty text
	}
	for i, n := range rows {
		p := filled(t, "x", "y", "x")
		if code := p.DropTree(n); code != api.ErrMissing {
			t.Errorf("DropTree of %d = %d", i, code)
		}
		holdAgainst(t, p, model{"x": 2, "y": 1}, "z", "")
	}
}

func TestTreesAreLeftAsTheyAre(t *testing.T) { // rule 4
	n := files("x", "y")
	kids := n.Kids
	p := pool.New()
	p.PutTree(n)
	kids[0].Node.Text = "other"
	holdAgainst(t, p, model{"x": 1, "y": 1}, "other")
	p.DropTree(n)
	holdAgainst(t, p, model{"x": 1, "y": 1})
	if len(n.Kids) != 2 || kids[0].Name != "a" || kids[0].Node.Text != "other" || kids[1].Node.Text != "y" {
		t.Error("a tree was changed")
	}
}

// randomTree: a tree whose files have few different contents.
func randomTree(r *rand.Rand, levels int) api.Node {
	switch r.Intn(6) {
	case 0:
		return exec(strings.Repeat("e", r.Intn(4)))
	case 1:
		return link("l")
	case 2, 3:
		if levels > 0 {
			n := dir()
			for i := range r.Intn(4) {
				n.Kids = append(n.Kids, in(string(rune('a'+i)), randomTree(r, levels-1)))
			}
			return n
		}
	}
	return file(strings.Repeat("f", r.Intn(4)))
}

// dropAll drops the texts one by one from a copy, which counts only if none is missing.
func (m model) dropAll(texts []string) (model, api.Errno) {
	next := m.copied()
	for _, text := range texts {
		if code := next.drop(text); code != api.OK {
			return m, code
		}
	}
	return next, api.OK
}

func TestRandomCalls(t *testing.T) { // P12.1 to P12.4
	r := rand.New(rand.NewSource(12))
	p, want := pool.New(), model{}
	kept, keptWant := p.Fork(), want.copied()
	for step := range 6000 {
		n := randomTree(r, 3)
		text := strings.Repeat("f", r.Intn(5))
		code, expected := api.OK, api.OK
		switch r.Intn(8) {
		case 0, 1:
			_, code = p.Put(text)
			want.put(text)
		case 2, 3:
			code, expected = p.Drop(digest(text)), want.drop(text)
		case 4:
			code = p.PutTree(n)
			for _, text := range texts(n) {
				want.put(text)
			}
		case 5, 6:
			code = p.DropTree(n)
			want, expected = want.dropAll(texts(n))
		case 7:
			holdAgainst(t, kept, keptWant, "", "f", "e")
			if step%3 == 0 {
				kept, keptWant = p, want
				p, want = p.Fork(), want.copied()
			}
		}
		if code != expected {
			t.Fatalf("step %d: %d, not %d", step, code, expected)
		}
		holdAgainst(t, p, want, "", "f", "ff", "e")
	}
}
