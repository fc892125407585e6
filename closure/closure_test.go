package closure_test

import (
	"math/rand"
	"slices"
	"strings"
	"testing"

	"depot/api"
	"depot/closure"
	"depot/store"
)

func TestExport(t *testing.T) { // P18.1
	a := record(at('9', "a"), file("x"))
	b := record(at('0', "b"), dir(in("k", link("l"))), at('0', "b"), at('9', "a"))
	c := record(at('5', "c"), file(""))
	s := filled(t, a, b, c)
	rows := []struct {
		roots []string
		want  string
	}{
		{nil, number(0)},
		{[]string{}, number(0)},
		{[]string{a.Path}, stream(a)},
		{[]string{b.Path}, stream(a, b)},
		{[]string{c.Path, c.Path}, stream(c)},
		{[]string{b.Path, a.Path, c.Path}, stream(c, a, b)},
	}
	for _, r := range rows {
		given := slices.Clone(r.roots)
		if got, code := closure.Export(s, r.roots); got != r.want || code != api.OK || !slices.Equal(r.roots, given) {
			t.Errorf("Export(%q) = %q, %d", r.roots, got, code)
		}
	}
	for _, roots := range [][]string{{""}, {a.Path, "x"}, {at('1', "a"), a.Path}, {a.Path + "a"}} {
		if got, code := closure.Export(s, roots); got != "" || code != api.ErrMissing {
			t.Errorf("Export(%q) = %q, %d", roots, got, code)
		}
	}
	holdStore(t, s, a, b, c)
}

func TestExportBytes(t *testing.T) { // P18.1: an entry, byte by byte
	path := at('0', "p")
	s := filled(t, record(path, dir(), path))
	want := "\x01\x00\x00\x00\x00\x00\x00\x00" + archive(dir()) +
		"\x0f\x00\x00\x00\x00\x00\x00\x00depot-closure-1\x00" +
		"\x2f\x00\x00\x00\x00\x00\x00\x00/depot/store/00000000000000000000000000000000-p\x00" +
		"\x01\x00\x00\x00\x00\x00\x00\x00" +
		"\x2f\x00\x00\x00\x00\x00\x00\x00/depot/store/00000000000000000000000000000000-p\x00" +
		"\x40\x00\x00\x00\x00\x00\x00\x00" + digits(archive(dir())) +
		"\x00\x00\x00\x00\x00\x00\x00\x00"
	if got, code := closure.Export(s, []string{path}); got != want || code != api.OK {
		t.Errorf("Export = %q, %d", got, code)
	}
}

func TestImport(t *testing.T) { // P18.4: what wasn't there comes in, in the stream's order
	a := record(at('9', "a"), file("x"))
	b := record(at('0', "b"), dir(in("k", link("l"))), at('0', "b"), at('9', "a"))
	c := record(at('5', "c"), file(""), at('0', "b"))
	rows := []struct {
		kept, sent, fresh []api.Record
	}{
		{nil, nil, nil},
		{[]api.Record{a}, nil, nil},
		{nil, []api.Record{a}, []api.Record{a}},
		{nil, []api.Record{a, b, c}, []api.Record{a, b, c}},
		{[]api.Record{a}, []api.Record{a, b, c}, []api.Record{b, c}},
		{[]api.Record{a, b, c}, []api.Record{a, b, c}, nil},
		{[]api.Record{a, b}, []api.Record{c, a}, []api.Record{c}}, // what an entry refers to may be in the store alone
		{[]api.Record{a}, []api.Record{b, a, b, c, b}, []api.Record{b, c}},
		{nil, []api.Record{a, a}, []api.Record{a}},
	}
	for i, r := range rows {
		s := filled(t, r.kept...)
		paths, f := closure.Import(s, stream(r.sent...))
		if f != (api.Fault{}) || !slices.Equal(paths, pathsOf(r.fresh)) {
			t.Errorf("%d: Import = %q, %v", i, paths, f)
		}
		holdStore(t, s, append(slices.Clone(r.kept), r.fresh...)...)
	}
}

func pathsOf(records []api.Record) []string {
	var list []string
	for _, r := range records {
		list = append(list, r.Path)
	}
	return list
}

func TestThereAndBack(t *testing.T) { // P18.1, P18.4
	r := rand.New(rand.NewSource(181))
	for range 300 {
		records := randomRecords(r, 1+r.Intn(10))
		s := filled(t, records...)
		roots := []string{records[r.Intn(len(records))].Path, records[len(records)-1].Path}
		sent, code := closure.Export(s, roots)
		order, _ := s.Order(roots)
		other := store.New()
		paths, f := closure.Import(other, sent)
		if code != api.OK || f != (api.Fault{}) || !slices.Equal(paths, order) {
			t.Fatalf("Import = %q, %v, not %q", paths, f, order)
		}
		if again, code := closure.Export(other, roots); again != sent || code != api.OK {
			t.Fatal("the stream of what came in is another one")
		}
		holdStore(t, s, records...)
	}
}

// sampleParts: the parts of a stream of two entries and the closing number; the second entry has two references.
func sampleParts() []string {
	a := record(at('1', "a"), file("x"))
	b := record(at('2', "b"), dir(in("k", link("l"))), at('1', "a"), at('2', "b"))
	return append(append(parts(a), parts(b)...), number(0))
}

func TestFaults(t *testing.T) { // P18.3: each fault, and its place
	const (
		mark = 6 + iota
		tree
		magic
		path
		count
		ref
		own
		hash
		end
	)
	plain := sampleParts()
	begin := func(part int) int { return len(strings.Join(plain[:part], "")) }
	last := func(part int) int { return begin(part) + len(plain[part]) - 1 }
	long := func(bytes int) string { return text(strings.Repeat("x", bytes)) }
	c := at('3', "c")
	rows := []struct {
		part  int
		with  string
		code  api.Errno
		at    int
		taken int // -1: as the place
	}{
		{mark, number(2), api.ErrMark, begin(mark), begin(mark) + 7},
		{mark, number(1 << 8), api.ErrMark, begin(mark), begin(mark) + 7},
		{mark, number(1<<63 | 1), api.ErrMark, begin(mark), begin(mark) + 7},
		{mark, number(0), api.ErrTrail, begin(mark) + 8, -1},
		{tree, text("depot-archive-2"), api.ErrToken, begin(tree), begin(tree) + 23},
		{tree, number(1<<20 + 1), api.ErrLong, begin(tree), begin(tree) + 7},
		{tree, text("depot-archive-1")[:23] + "x", api.ErrPad, begin(tree) + 23, -1},
		{tree, archive(dir())[:80] + text("entry") + text("(") + text("name") + text(".."), api.ErrDots, begin(tree) + 128, begin(tree) + 143},
		{magic, text("depot-closure-2"), api.ErrMagic, begin(magic), last(magic)},
		{magic, text(""), api.ErrMagic, begin(magic), begin(magic) + 7},
		{magic, text("depot-closure-1\x00"), api.ErrMagic, begin(magic), last(magic)},
		{magic, long(4096), api.ErrMagic, begin(magic), begin(magic) + 8 + 4095},
		{magic, long(4097), api.ErrLong, begin(magic), begin(magic) + 7},
		{magic, number(1 << 63), api.ErrLong, begin(magic), begin(magic) + 7},
		{magic, plain[magic][:23] + "\x01", api.ErrPad, begin(magic) + 23, -1},
		{magic, text("depot-closure")[:21] + "\x01\x00", api.ErrPad, begin(magic) + 21, -1},
		{path, text("x"), api.ErrPath, begin(path), begin(path) + 15},
		{path, text(at('e', "b")), api.ErrHash, begin(path), last(path)},
		{path, text(at('2', ".")), api.ErrName, begin(path), last(path)},
		{path, long(4097), api.ErrLong, begin(path), begin(path) + 7},
		{path, plain[path][:55] + "x", api.ErrPad, begin(path) + 55, -1},
		{count, number(1025), api.ErrMany, begin(count), begin(count) + 7},
		{count, number(1<<63 | 2), api.ErrMany, begin(count), begin(count) + 7},
		{count, number(1), api.ErrHash, begin(own), begin(own) + 55}, // the second one is taken for the digest
		{count, number(0), api.ErrHash, begin(ref), begin(ref) + 55},
		{count, number(3), api.ErrRefs, begin(hash), last(hash)},
		{ref, text("x"), api.ErrRefs, begin(ref), begin(ref) + 15},
		{ref, text(at('e', "b")), api.ErrRefs, begin(ref), last(ref)},
		{ref, text(at('0', "a")), api.ErrMissing, begin(ref), last(ref)},
		{ref, text(c), api.ErrMissing, begin(ref), last(ref)},
		{ref, text(at('2', "b")), api.ErrRefs, begin(own), last(own)}, // twice the own path
		{ref, long(4097), api.ErrLong, begin(ref), begin(ref) + 7},
		{ref, plain[ref][:55] + "x", api.ErrPad, begin(ref) + 55, -1},
		{own, text(at('1', "a")), api.ErrRefs, begin(own), last(own)},
		{own, text(at('0', "a")), api.ErrRefs, begin(own), last(own)}, // neither there nor rising
		{own, text(c), api.ErrMissing, begin(own), last(own)},
		{own, text("y"), api.ErrRefs, begin(own), begin(own) + 15},
		{hash, text(digits("x")), api.ErrHash, begin(hash), last(hash)},
		{hash, text(strings.ToUpper(digits(archive(dir(in("k", link("l"))))))), api.ErrHash, begin(hash), last(hash)},
		{hash, text(""), api.ErrHash, begin(hash), begin(hash) + 7},
		{hash, long(4097), api.ErrLong, begin(hash), begin(hash) + 7},
		{end, number(3), api.ErrMark, begin(end), begin(end) + 7},
		{end, number(0) + "\x00", api.ErrTrail, begin(end) + 8, -1},
		{end, number(0) + number(0), api.ErrTrail, begin(end) + 8, -1},
		{end, "", api.ErrShort, begin(end), -1},
		{end, number(0)[:7], api.ErrShort, begin(end) + 7, -1},
	}
	for i, r := range rows {
		list := slices.Clone(plain)
		list[r.part] = r.with
		if r.taken < 0 {
			r.taken = r.at
		}
		checkFault(t, i, strings.Join(list, ""), fault(r.code, r.at), r.taken)
	}
}

// checkFault: a text that is refused, whole and byte by byte; nothing comes into a store.
func checkFault(t *testing.T, row int, sent string, want api.Fault, taken int, kept ...api.Record) {
	t.Helper()
	s := filled(t, kept...)
	if paths, f := closure.Import(s, sent); len(paths) != 0 || f != want {
		t.Errorf("%d: Import = %q, %v, not %v", row, paths, f, want)
	}
	m := closure.NewImporter(s)
	sum := 0
	for i := range len(sent) {
		sum += m.Feed([]byte(sent[i : i+1]))
	}
	if sum != taken || m.Taken() != taken {
		t.Errorf("%d: Taken = %d, took %d, not %d", row, m.Taken(), sum, taken)
	}
	if paths, f := m.Close(); len(paths) != 0 || f != want || m.Fault() != want || m.Taken() != taken {
		t.Errorf("%d: Close = %q, %v, not %v", row, paths, f, want)
	}
	holdStore(t, s, kept...)
}

func TestEveryPrefixIsShort(t *testing.T) { // P18.3, P18.4
	sent := strings.Join(sampleParts(), "")
	for i := range len(sent) {
		checkFault(t, i, sent[:i], fault(api.ErrShort, i), i)
	}
}

func TestClashes(t *testing.T) { // P18.3: with the store and with an earlier entry, at the entry's first number
	a := record(at('1', "a"), file("x"))
	b := record(at('2', "b"), file("y"), a.Path)
	other := []api.Record{
		record(b.Path, file("z"), a.Path),
		record(b.Path, api.Node{Kind: api.File, Exec: true, Text: "y"}, a.Path),
		record(b.Path, file("y")),
		record(b.Path, file("y"), b.Path),
		record(b.Path, file("y"), a.Path, b.Path),
	}
	for i, r := range other {
		begin := len(stream(a)) - 8
		sent := stream(a, r)
		checkFault(t, i, sent, fault(api.ErrClash, begin), len(sent)-9, a, b)
		begin = len(stream(a, b)) - 8
		sent = stream(a, b, r)
		checkFault(t, i, sent, fault(api.ErrClash, begin), len(sent)-9)
		checkFault(t, i, sent, fault(api.ErrClash, begin), len(sent)-9, a)
		wrong := sent[:len(sent)-9] + "x" + sent[len(sent)-8:] // the digest is looked at first
		checkFault(t, i, wrong, fault(api.ErrHash, len(sent)-8-72), len(sent)-9, a)
	}
}

func TestReferencesAreThere(t *testing.T) { // P18.3: in the store, in an earlier entry, or the own path; not in a later one
	a := record(at('1', "a"), file("x"))
	b := record(at('2', "b"), file("y"), a.Path)
	place := len(strings.Join(parts(b)[:5], ""))
	checkFault(t, 0, stream(b, a), fault(api.ErrMissing, place), place+55)
	checkFault(t, 1, stream(b), fault(api.ErrMissing, place), place+55, record(at('1', "aa"), file("x")))
	if paths, f := closure.Import(filled(t, a), stream(b, a)); f != (api.Fault{}) || !slices.Equal(paths, []string{b.Path}) {
		t.Errorf("Import = %q, %v", paths, f)
	}
}

func TestEdges(t *testing.T) { // P18.3: MaxRefs references, an archive of MaxArchive bytes, the longest path
	var records []api.Record
	var refs []string
	for i := range api.MaxRefs {
		path := "/depot/store/" + strings.Repeat("0", 28) + string([]byte{byte('0' + i/1000), byte('0' + i/100%10), byte('0' + i/10%10), byte('0' + i%10)}) + "-" + strings.Repeat("l", api.MaxLabel)
		records = append(records, record(path, dir()))
		refs = append(refs, path)
	}
	big := record(at('z', "big"), file(strings.Repeat("x", api.MaxArchive-112)), refs...)
	if big.Size != api.MaxArchive {
		t.Fatalf("%d bytes", big.Size)
	}
	sent := stream(append(slices.Clone(records), big)...)
	s := store.New()
	if paths, f := closure.Import(s, sent); f != (api.Fault{}) || !slices.Equal(paths, append(slices.Clone(refs), big.Path)) {
		t.Errorf("Import: %d paths, %v", len(paths), f)
	}
	if again, code := closure.Export(s, []string{big.Path}); again != sent || code != api.OK {
		t.Errorf("Export: %d bytes, %d", len(again), code)
	}
	more := number(1) + archive(dir()) + text("depot-closure-1") + text(at('z', "more"))
	_, f := closure.Import(s, more+number(1025))
	if f != fault(api.ErrMany, len(more)) {
		t.Errorf("a reference more: %v", f)
	}
	larger := number(1) + archive(big.Tree)[:88] + text(strings.Repeat("x", api.MaxArchive-111)) + text(")")
	if _, f := closure.Import(s, larger); f != fault(api.ErrBig, 8+api.MaxArchive) {
		t.Errorf("a larger archive: %v", f)
	}
}
