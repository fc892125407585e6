package closure_test

import (
	"math/rand"
	"slices"
	"testing"

	"depot/api"
	"depot/closure"
	"depot/store"
)

// checkFeeding feeds a text in pieces of the lengths that cut answers, and holds the Importer against the story of what it was fed.
func checkFeeding(t *testing.T, sent string, kept []api.Record, cut func() int) story {
	t.Helper()
	s := filled(t, kept...)
	m := closure.NewImporter(s)
	for done := 0; done < len(sent); {
		end := min(done+cut(), len(sent))
		before := m.Taken()
		took := m.Feed([]byte(sent[done:end]))
		done = end
		want, _ := storyOf(sent[:done], kept...)
		if m.Taken() != want.taken || m.Fault() != want.fault || took != m.Taken()-before {
			t.Fatalf("behind %d bytes of %q: %d, %v, not %d, %v; took %d", done, sent, m.Taken(), m.Fault(), want.taken, want.fault, took)
		}
		if s.Len() != len(kept) {
			t.Fatal("something came in ahead of Close")
		}
	}
	want, fresh := storyOf(sent, kept...)
	if want.fault.Code == api.OK && !want.whole {
		want.fault = fault(api.ErrShort, len(sent))
	}
	if want.fault.Code != api.OK {
		fresh = nil
	}
	checkClosing(t, m, want, fresh)
	holdStore(t, s, append(slices.Clone(kept), fresh...)...)
	return want
}

// checkClosing closes an Importer again and again.
func checkClosing(t *testing.T, m *closure.Importer, want story, fresh []api.Record) {
	t.Helper()
	for range 3 {
		paths, f := m.Close()
		if f != want.fault || !slices.Equal(paths, pathsOf(fresh)) {
			t.Fatalf("Close = %q, %v, not %q, %v", paths, f, pathsOf(fresh), want.fault)
		}
		if m.Feed([]byte("\x00")) != 0 || m.Feed(nil) != 0 || m.Taken() != want.taken || m.Fault() != want.fault {
			t.Fatalf("a closed Importer: %d, %v", m.Taken(), m.Fault())
		}
		for i := range paths[:cap(paths)] { // the next answer is new memory
			paths[:cap(paths)][i] = "scribbled"
		}
	}
}

func TestRandomStreams(t *testing.T) { // P18.2, P18.3, P18.4, rules 3 and 6
	r := rand.New(rand.NewSource(182))
	met := map[api.Errno]int{}
	for i := range 5000 {
		records := randomRecords(r, 1+r.Intn(4))
		sent := stream(records...)
		if i%6 > 0 {
			sent = spoiled(r, records)
		}
		kept := records[:r.Intn(len(records)+1)]
		if i%3 == 0 {
			kept = nil
		}
		most := []int{60, 300, 1000, 3000}[i%4]
		got := checkFeeding(t, sent, kept, func() int { return r.Intn(most) })
		met[got.fault.Code]++
	}
	for _, code := range []api.Errno{api.OK, api.ErrShort, api.ErrTrail, api.ErrLong, api.ErrPad, api.ErrClash, api.ErrMissing, api.ErrToken, api.ErrPath, api.ErrHash, api.ErrName, api.ErrRefs, api.ErrMany, api.ErrMark, api.ErrMagic} {
		if met[code] == 0 {
			t.Errorf("no stream with the error %d", code)
		}
	}
}

func TestByteByByteAndWhole(t *testing.T) { // rule 6
	r := rand.New(rand.NewSource(183))
	for range 12 {
		records := randomRecords(r, 2)
		for _, sent := range []string{stream(records...), stream(records...) + "\x00", spoiled(r, records)} {
			checkFeeding(t, sent, nil, func() int { return 1 })
			checkFeeding(t, sent, nil, func() int { return len(sent) })
		}
	}
}

func TestNewImporter(t *testing.T) { // P18.2
	a := record(at('1', "a"), file("x"))
	s := filled(t, a)
	m := closure.NewImporter(s)
	if m.Taken() != 0 || m.Fault() != (api.Fault{}) || m.Feed(nil) != 0 || m.Feed([]byte{}) != 0 {
		t.Errorf("a new Importer: %d, %v", m.Taken(), m.Fault())
	}
	if paths, f := m.Close(); len(paths) != 0 || f != fault(api.ErrShort, 0) || m.Fault() != f {
		t.Errorf("Close = %q, %v", paths, f)
	}
	holdStore(t, s, a)
}

func TestCloseIsTheEnd(t *testing.T) { // P18.4: a second Close changes nothing, whatever the store has become
	a, b := record(at('1', "a"), file("x")), record(at('2', "b"), file("y"))
	s := store.New()
	m := closure.NewImporter(s)
	sent := stream(a, b)
	if m.Feed([]byte(sent)) != len(sent) {
		t.Fatal(m.Fault())
	}
	m.Close()
	s.Cut(a.Path)
	if paths, f := m.Close(); !slices.Equal(paths, []string{a.Path, b.Path}) || f != (api.Fault{}) {
		t.Errorf("Close = %q, %v", paths, f)
	}
	holdStore(t, s, b)
	m = closure.NewImporter(s)
	m.Feed([]byte(sent[:len(sent)-1]))
	m.Close()
	if m.Feed([]byte(sent[len(sent)-1:])) != 0 {
		t.Error("a closed Importer takes a byte")
	}
	if paths, f := m.Close(); len(paths) != 0 || f != fault(api.ErrShort, len(sent)-1) {
		t.Errorf("Close = %q, %v", paths, f)
	}
	holdStore(t, s, b)
}

func TestNothingBehindAFault(t *testing.T) { // P18.2
	a := record(at('1', "a"), file("x"))
	s := store.New()
	m := closure.NewImporter(s)
	sent := stream(a)
	if took := m.Feed([]byte(sent + "more")); took != len(sent) || m.Fault() != fault(api.ErrTrail, len(sent)) {
		t.Errorf("took %d, %v", took, m.Fault())
	}
	if took := m.Feed([]byte(sent)); took != 0 || m.Taken() != len(sent) {
		t.Errorf("took %d behind a fault", took)
	}
	if paths, f := m.Close(); len(paths) != 0 || f != fault(api.ErrTrail, len(sent)) {
		t.Errorf("Close = %q, %v", paths, f)
	}
	holdStore(t, s)
}

func TestFeedKeepsAndChangesNothing(t *testing.T) { // rule 4
	a := record(at('1', "a"), dir(in("n", file("text"))))
	b := record(at('2', "b"), file("y"), at('1', "a"), at('2', "b"))
	sent := stream(a, b)
	s := store.New()
	m := closure.NewImporter(s)
	for i := 0; i < len(sent); i += 10 {
		room := []byte(sent[i:min(i+10, len(sent))] + "spare")
		piece := room[:len(room)-5]
		m.Feed(piece)
		if string(room) != sent[i:i+len(piece)]+"spare" {
			t.Fatal("Feed changed its piece")
		}
		for j := range room {
			room[j] = '?'
		}
	}
	if paths, f := m.Close(); f != (api.Fault{}) || len(paths) != 2 {
		t.Fatalf("Close = %q, %v", paths, f)
	}
	holdStore(t, s, a, b)
}

func TestImportersGoOnByThemselves(t *testing.T) { // P2
	a, b := record(at('1', "a"), file("x")), record(at('2', "b"), file("y"))
	one, other := store.New(), store.New()
	m, n := closure.NewImporter(one), closure.NewImporter(other)
	x, y := stream(a), stream(b, a)
	for i := range max(len(x), len(y)) {
		m.Feed([]byte(x[min(i, len(x)):min(i+1, len(x))]))
		n.Feed([]byte(y[min(i, len(y)):min(i+1, len(y))]))
	}
	if paths, f := n.Close(); f != (api.Fault{}) || !slices.Equal(paths, []string{b.Path, a.Path}) {
		t.Errorf("Close = %q, %v", paths, f)
	}
	if paths, f := m.Close(); f != (api.Fault{}) || !slices.Equal(paths, []string{a.Path}) {
		t.Errorf("Close = %q, %v", paths, f)
	}
	holdStore(t, one, a)
	holdStore(t, other, a, b)
}

func TestManyEntries(t *testing.T) { // P1: the time goes by the bytes
	s := store.New()
	last := ""
	for i := range 5000 {
		var refs []string
		if last != "" {
			refs = []string{last}
		}
		last, _ = s.Add("n", file(string(rune('a'+i%26))), refs)
	}
	sent, code := closure.Export(s, []string{last})
	other := store.New()
	paths, f := closure.Import(other, sent)
	if code != api.OK || f != (api.Fault{}) || len(paths) != 5000 || paths[4999] != last || other.Bytes() != s.Bytes() {
		t.Errorf("Import: %d paths, %v", len(paths), f)
	}
}
