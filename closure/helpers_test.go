package closure_test

import (
	"crypto/sha256"
	"encoding/binary"
	"encoding/hex"
	"math/rand"
	"slices"
	"strings"
	"testing"

	"depot/api"
	"depot/listing"
	"depot/nar"
	"depot/spath"
	"depot/store"
)

func file(text string) api.Node { return api.Node{Kind: api.File, Text: text} }

func link(target string) api.Node { return api.Node{Kind: api.Link, Text: target} }

func dir(kids ...api.Entry) api.Node { return api.Node{Kind: api.Dir, Kids: kids} }

func in(name string, n api.Node) api.Entry { return api.Entry{Name: name, Node: n} }

func fault(code api.Errno, at int) api.Fault { return api.Fault{Code: code, At: at} }

// at: a path whose hash is so many times one letter.
func at(letter byte, label string) string {
	return "/depot/store/" + strings.Repeat(string(letter), 32) + "-" + label
}

// record: what a store keeps of a tree.
func record(path string, n api.Node, refs ...string) api.Record {
	r := api.Record{Path: path, Tree: n, Refs: refs}
	r.Hash, r.Size, _ = listing.Sum(n)
	return r
}

// filled: a store into which these records came.
func filled(t *testing.T, records ...api.Record) *store.Store {
	t.Helper()
	s := store.New()
	for _, r := range records {
		if code := s.Insert(r); code != api.OK {
			t.Fatalf("Insert of %s = %d", r.Path, code)
		}
	}
	return s
}

// holdStore: the store has these records and no others.
func holdStore(t *testing.T, s *store.Store, want ...api.Record) {
	t.Helper()
	if s.Len() != len(want) {
		t.Fatalf("%d paths, not %d", s.Len(), len(want))
	}
	for _, r := range want {
		if got, code := s.Get(r.Path); code != api.OK || !store.Same(got, r) {
			t.Fatalf("under %s: %v, %d, not %v", r.Path, got, code, r)
		}
	}
}

// number and text: as a stream frames them, by the library.
func number(n uint64) string { return string(binary.LittleEndian.AppendUint64(nil, n)) }

func text(s string) string {
	return number(uint64(len(s))) + s + strings.Repeat("\x00", (8-len(s)%8)%8)
}

func archive(n api.Node) string {
	a, _ := nar.Serial(n)
	return a
}

func digits(archive string) string {
	d := sha256.Sum256([]byte(archive))
	return hex.EncodeToString(d[:])
}

// parts: an entry's parts, one behind the other, so that tests can change each.
func parts(r api.Record) []string {
	list := []string{number(1), archive(r.Tree), text("depot-closure-1"), text(r.Path), number(uint64(len(r.Refs)))}
	for _, ref := range r.Refs {
		list = append(list, text(ref))
	}
	return append(list, text(digits(archive(r.Tree))))
}

// stream: the entries of the records with the closing number behind them.
func stream(records ...api.Record) string {
	s := ""
	for _, r := range records {
		s += strings.Join(parts(r), "")
	}
	return s + number(0)
}

// story is what the document says of an Importer that was fed a text.
type story struct {
	taken int
	fault api.Fault
	whole bool // the closing number has come
}

// teller goes through a whole text, from its beginning to where it is refused or ends.
type teller struct {
	text  string
	at    int
	known map[string]api.Record // the store's records and those of the entries
	fresh []api.Record
}

// storyOf tells the story of a text that is fed to an Importer into a store with these records, and the records that are new.
func storyOf(text string, kept ...api.Record) (s story, fresh []api.Record) {
	t := &teller{text: text, known: map[string]api.Record{}}
	for _, r := range kept {
		t.known[r.Path] = r
	}
	defer func() {
		if got, ok := recover().(story); ok {
			s = got
		}
	}()
	for {
		first := t.at
		mark := t.number(func(n uint64) api.Errno {
			if n > 1 {
				return api.ErrMark
			}
			return api.OK
		})
		if mark == 0 {
			break
		}
		t.entry(first)
	}
	if t.at < len(text) {
		panic(story{taken: t.at, fault: fault(api.ErrTrail, t.at), whole: true})
	}
	return story{taken: t.at, whole: true}, t.fresh
}

// entry goes through an entry whose first number, which begins at first, has been read.
func (t *teller) entry(first int) {
	tree, archive := t.archive()
	t.word(func(s string) api.Errno {
		if s != "depot-closure-1" {
			return api.ErrMagic
		}
		return api.OK
	})
	r := record(t.word(func(s string) api.Errno { _, _, code := spath.Parse(s); return code }), tree)
	count := t.number(func(n uint64) api.Errno {
		if n > 1024 {
			return api.ErrMany
		}
		return api.OK
	})
	for range count {
		r.Refs = append(r.Refs, t.word(func(s string) api.Errno {
			_, _, code := spath.Parse(s)
			_, there := t.known[s]
			switch {
			case code != api.OK, len(r.Refs) > 0 && s <= r.Refs[len(r.Refs)-1]:
				return api.ErrRefs
			case s != r.Path && !there:
				return api.ErrMissing
			}
			return api.OK
		}))
	}
	t.word(func(s string) api.Errno {
		if s != digits(archive) {
			return api.ErrHash
		}
		return api.OK
	})
	kept, there := t.known[r.Path]
	if there && !store.Same(kept, r) {
		panic(story{taken: t.at - 1, fault: fault(api.ErrClash, first)})
	}
	if !there {
		t.known[r.Path] = r
		t.fresh = append(t.fresh, r)
	}
}

// archive reads an archive as a part parser does.
func (t *teller) archive() (api.Node, string) {
	p := nar.NewPart()
	took := p.Feed([]byte(t.text[t.at:]))
	if f := p.Fault(); f.Code != api.OK {
		panic(story{taken: t.at + took, fault: fault(f.Code, t.at+f.At)})
	}
	if !p.Whole() {
		panic(story{taken: len(t.text)})
	}
	t.at += took
	n, _ := p.Close()
	return n, t.text[t.at-took : t.at]
}

// number reads a number; may says whether it may stand there.
func (t *teller) number(may func(n uint64) api.Errno) uint64 {
	if len(t.text)-t.at < 8 {
		panic(story{taken: len(t.text)})
	}
	n := binary.LittleEndian.Uint64([]byte(t.text[t.at : t.at+8]))
	if code := may(n); code != api.OK {
		panic(story{taken: t.at + 7, fault: fault(code, t.at)})
	}
	t.at += 8
	return n
}

// word reads a text; may says whether it may stand there.
func (t *teller) word(may func(s string) api.Errno) string {
	first := t.at
	length := t.number(func(n uint64) api.Errno {
		if n > 4096 {
			return api.ErrLong
		}
		return api.OK
	})
	end := t.at + int(length)
	for i := end; i%8 != first%8; i++ {
		if i < len(t.text) && t.text[i] != 0 {
			panic(story{taken: i, fault: fault(api.ErrPad, i)})
		}
	}
	whole := end + (8-int(length)%8)%8
	if len(t.text) < whole {
		panic(story{taken: len(t.text)})
	}
	if code := may(t.text[t.at:end]); code != api.OK {
		panic(story{taken: whole - 1, fault: fault(code, first)})
	}
	t.at = whole
	return t.text[end-int(length) : end]
}

// randomTree: a small tree, seldom the same as another one.
func randomTree(r *rand.Rand) api.Node {
	switch r.Intn(4) {
	case 0:
		return dir()
	case 1:
		return link("to")
	case 2:
		return dir(in("a", file(strings.Repeat("x", r.Intn(9)))), in("b", link("a")))
	}
	return api.Node{Kind: api.File, Exec: r.Intn(2) == 0, Text: strings.Repeat("y", r.Intn(20))}
}

// randomRecords: records of which each refers to some of those ahead of it, and perhaps to itself.
func randomRecords(r *rand.Rand, count int) []api.Record {
	var list []api.Record
	for i := range count {
		path := at("0123456789abcdfg"[(7*i+r.Intn(3))%16], string(rune('a'+i)))
		var refs []string
		for _, ahead := range list {
			if r.Intn(3) == 0 {
				refs = append(refs, ahead.Path)
			}
		}
		if r.Intn(3) == 0 {
			refs = append(refs, path)
		}
		slices.Sort(refs)
		list = append(list, record(path, randomTree(r), refs...))
	}
	return list
}

// spoiled: a stream with something wrong in it, most of the time.
func spoiled(r *rand.Rand, records []api.Record) string {
	list := []string{}
	for _, rec := range records {
		list = append(list, parts(rec)...)
	}
	list = append(list, number(0))
	i := r.Intn(len(list))
	b := []byte(list[i])
	switch r.Intn(12) {
	case 0:
		b[r.Intn(len(b))] ^= 1 << r.Intn(8)
	case 1:
		b[len(b)-1]++
	case 2:
		b[0]++
	case 3:
		b = nil
	case 4:
		b = append(b, list[r.Intn(len(list))]...)
	case 5:
		b = []byte(list[r.Intn(len(list))])
	case 6:
		b = append(b, 0)
	case 7:
		b = b[:r.Intn(len(b))]
	case 8:
		b = append([]byte(number(uint64(r.Intn(3)))), b...)
	case 9:
		b = []byte(text(at("01234e"[r.Intn(6)], "a")))
	case 10:
		b = []byte(number(uint64([]int{1, 2, 1024, 1025, 4096, 4097, 1 << 40}[r.Intn(7)])))
	case 11:
		other := parts(record(records[r.Intn(len(records))].Path, randomTree(r), records[0].Path))
		b = []byte(strings.Join(other, ""))
	}
	list[i] = string(b)
	return strings.Join(list, "")
}
