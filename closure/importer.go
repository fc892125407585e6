package closure

import (
	"slices"

	"depot/api"
	"depot/nar"
	"depot/sha"
	"depot/spath"
	"depot/store"
	"depot/wire"
)

// part is what the next byte belongs to.
type part int

const (
	inMark part = iota // the number that tells an entry from the end
	inArchive
	inWord
	inPath
	inCount // of the references
	inRef
	inDigest
	behindAll
)

// spot is how far the bytes were taken, and what was wrong there; the Importer embeds it.
type spot struct {
	taken int
	fault api.Fault
}

// Taken: the bytes taken in ahead of the one with which a fault was found.
func (s *spot) Taken() int { return s.taken }

// Fault: what was wrong first.
func (s *spot) Fault() api.Fault { return s.fault }

// entry is what came of an entry that isn't whole.
type entry struct {
	api.Record
	at   int // where it begins
	lack int // the references that haven't come
}

// Importer takes a stream in.
type Importer struct {
	spot
	closed bool
	into   *store.Store
	next   *store.Store // as the store is to be, with the entries that are whole
	fresh  []string     // what next has beyond the store, in the stream's order
	entry  entry
	part   part
	begun  int // where the part begins
	item   *wire.Reader
	tree   *nar.Parser
	digest *sha.State // of the archive's bytes that have come
}

// NewImporter: an Importer into a store.
func NewImporter(s *store.Store) *Importer {
	m := &Importer{into: s, next: s.Fork()}
	m.begin(inMark)
	return m
}

// Feed takes bytes in and answers how many.
func (m *Importer) Feed(b []byte) int {
	before := m.taken
stream:
	for took := 0; took < len(b); took = m.taken - before {
		switch {
		case !m.open():
			break stream
		case m.part == behindAll:
			m.fail(api.Fault{Code: api.ErrTrail, At: m.taken})
		case m.part == inArchive:
			m.takeArchive(b[took:])
		default:
			m.takeItem(b[took:])
		}
	}
	return m.taken - before
}

// Close: the bytes end here: the paths that are new, or what was wrong.
func (m *Importer) Close() ([]string, api.Fault) {
	if m.open() && m.part != behindAll {
		m.fail(api.Fault{Code: api.ErrShort, At: m.taken})
	}
	if m.open() {
		m.bring()
	}
	m.closed = true
	return slices.Clone(m.fresh), m.fault
}

// open: may anything still change?
func (m *Importer) open() bool { return !m.closed && m.fault.Code == api.OK }

// begin goes to a part, which begins behind what was taken.
func (m *Importer) begin(p part) {
	m.part, m.begun = p, m.taken
	switch p {
	case inMark:
		m.entry = entry{at: m.taken}
		m.item = wire.NewReader("i", 0)
	case inCount:
		m.item = wire.NewReader("i", 0)
	case inArchive:
		m.tree, m.digest = nar.NewPart(), sha.New()
	case inWord, inPath, inRef, inDigest:
		m.item = wire.NewReader("t", api.MaxText)
	}
}

// takeArchive takes of the bytes those that belong to the archive.
func (m *Importer) takeArchive(b []byte) {
	took := m.tree.Feed(b)
	m.digest.Write(b[:took])
	m.taken += took
	if f := m.tree.Fault(); f.Code != api.OK {
		m.fail(m.within(f))
		return
	}
	if m.tree.Whole() {
		m.entry.Tree, _ = m.tree.Close()
		m.entry.Hash, m.entry.Size = m.digest.Sum(), m.tree.Taken()
		m.begin(inWord)
	}
}

// takeItem takes of the bytes those that belong to the number or text that isn't whole. Its reader is for it alone: the ErrTrail that stops it behind the item is no fault of the stream.
func (m *Importer) takeItem(b []byte) {
	before := m.item.Taken()
	items := m.item.Feed(b)
	m.taken += m.item.Taken() - before
	if len(items) > 0 {
		if f := m.accept(items[0]); f.Code != api.OK {
			m.taken-- // the item's last byte, with which the fault was found
			m.fail(f)
		}
		return
	}
	if f := m.item.Fault(); f.Code != api.OK {
		m.fail(m.within(f))
	}
}

// accept goes on behind a number or text that is whole, and answers what is wrong with it.
func (m *Importer) accept(item wire.Item) api.Fault {
	switch m.part {
	case inMark:
		return m.acceptMark(item.Num)
	case inWord:
		if item.Text != word {
			return m.here(api.ErrMagic)
		}
		m.begin(inPath)
	case inPath:
		if _, _, code := spath.Parse(item.Text); code != api.OK {
			return m.here(code)
		}
		m.entry.Path = item.Text
		m.begin(inCount)
	case inCount:
		if item.Num > api.MaxRefs {
			return m.here(api.ErrMany)
		}
		m.entry.lack = int(item.Num)
		m.beginRef()
	case inRef:
		return m.acceptRef(item.Text)
	case inDigest:
		return m.acceptDigest(item.Text)
	}
	return api.Fault{}
}

func (m *Importer) acceptMark(mark uint64) api.Fault {
	switch mark {
	case endMark:
		m.begin(behindAll)
	case entryMark:
		m.begin(inArchive)
	default:
		return m.here(api.ErrMark)
	}
	return api.Fault{}
}

// beginRef goes to the next reference, or behind the last one.
func (m *Importer) beginRef() {
	if m.entry.lack == 0 {
		m.begin(inDigest)
		return
	}
	m.begin(inRef)
}

func (m *Importer) acceptRef(ref string) api.Fault {
	refs := append(m.entry.Refs, ref)
	lastTwo := refs[max(len(refs)-2, 0):] // those ahead were looked at when they came
	if code := spath.CheckRefs(lastTwo); code != api.OK {
		return m.here(code)
	}
	if ref != m.entry.Path && !m.next.Has(ref) {
		return m.here(api.ErrMissing)
	}
	m.entry.Refs = refs
	m.entry.lack--
	m.beginRef()
	return api.Fault{}
}

func (m *Importer) acceptDigest(digits string) api.Fault {
	if digits != hexDigits(m.entry.Hash) {
		return m.here(api.ErrHash)
	}
	fresh := !m.next.Has(m.entry.Path)
	if code := m.next.Insert(m.entry.Record); code != api.OK { // ErrClash: all else was looked at as it came
		return api.Fault{Code: code, At: m.entry.at}
	}
	if fresh {
		m.fresh = append(m.fresh, m.entry.Path)
	}
	m.begin(inMark)
	return api.Fault{}
}

// bring: the records that are new come into the store; it refuses none, as its fork took them in this order.
func (m *Importer) bring() {
	for _, path := range m.fresh {
		r, _ := m.next.Get(path)
		m.into.Insert(r)
	}
	m.letGo()
}

// here: a fault at the part's first byte.
func (m *Importer) here(code api.Errno) api.Fault { return api.Fault{Code: code, At: m.begun} }

// within: a fault whose place is counted from the part's first byte.
func (m *Importer) within(f api.Fault) api.Fault { return api.Fault{Code: f.Code, At: m.begun + f.At} }

// fail notes the first fault; no path is new then.
func (m *Importer) fail(f api.Fault) {
	m.fault, m.fresh = f, nil
	m.letGo()
}

// letGo forgets what nothing can ask for any more.
func (m *Importer) letGo() {
	m.into, m.next, m.entry = nil, nil, entry{}
	m.item, m.tree, m.digest = nil, nil, nil
}
