package log_test

import (
	"crypto/sha256"
	"encoding/binary"
	"encoding/hex"
	"fmt"
	"maps"
	"reflect"
	"slices"
	"strings"
	"testing"

	"depot/api"
	"depot/closure"
	"depot/log"
	"depot/nar"
	"depot/spath"
	"depot/store"
	"depot/sweep"
)

func file(text string) api.Node { return api.Node{Kind: api.File, Text: text} }

func link(target string) api.Node { return api.Node{Kind: api.Link, Text: target} }

func dir(kids ...api.Entry) api.Node { return api.Node{Kind: api.Dir, Kids: kids} }

func in(name string, n api.Node) api.Entry { return api.Entry{Name: name, Node: n} }

func fault(code api.Errno, at int) api.Fault { return api.Fault{Code: code, At: at} }

// at: a path whose hash is so many times one letter.
func at(letter byte, label string) string {
	return "/depot/store/" + strings.Repeat(string(letter), 32) + "-" + label
}

// numbered: a path for each number, rising with it.
func numbered(i int, label string) string { return fmt.Sprintf("/depot/store/%032d-%s", i, label) }

// record: what a store keeps of a tree.
func record(path string, n api.Node, refs ...string) api.Record {
	a := archive(n)
	return api.Record{Path: path, Tree: n, Refs: refs, Hash: sha256.Sum256([]byte(a)), Size: len(a)}
}

// number and text: framed by the library.
func number(n uint64) string { return string(binary.LittleEndian.AppendUint64(nil, n)) }

func text(s string) string {
	return number(uint64(len(s))) + s + strings.Repeat("\x00", (8-len(s)%8)%8)
}

func archive(n api.Node) string {
	a, _ := nar.Serial(n)
	return a
}

// digits: the digest of a tree's archive in hexadecimal digits.
func digits(n api.Node) string {
	d := sha256.Sum256([]byte(archive(n)))
	return hex.EncodeToString(d[:])
}

// stream: the entries of the records with the closing number behind them.
func stream(records ...api.Record) string {
	s := ""
	for _, r := range records {
		s += number(1) + archive(r.Tree) + text("depot-closure-1") + text(r.Path) + number(uint64(len(r.Refs)))
		for _, ref := range r.Refs {
			s += text(ref)
		}
		s += text(digits(r.Tree))
	}
	return s + number(0)
}

// line: a record of a log, of some words.
func line(words ...string) string {
	payload := ""
	for _, w := range words {
		payload += text(w)
	}
	return text(payload)
}

// model is what the document says of a depot, over a store of its own.
type model struct {
	kept  *store.Store
	roots map[string]string
	log   string
}

func newModel() *model { return &model{kept: store.New(), roots: map[string]string{}} }

func (m *model) insert(r api.Record) api.Errno {
	there := m.kept.Has(r.Path)
	code := m.kept.Insert(r)
	if code == api.OK && !there {
		m.log += line("import", stream(r))
	}
	return code
}

func (m *model) add(label string, n api.Node, refs []string) (string, api.Errno) {
	before := m.kept.Fork()
	path, code := m.kept.Add(label, n, refs)
	if code == api.OK && !before.Has(path) {
		m.log += line("import", stream(record(path, n, refs...)))
	}
	return path, code
}

func (m *model) imports(text string) ([]string, api.Fault) {
	if len(text) > 2097120 {
		return nil, fault(api.ErrBig, 0)
	}
	fresh, f := closure.Import(m.kept, text)
	if f.Code == api.OK && len(fresh) > 0 {
		m.log += line("import", text)
	}
	return fresh, f
}

func (m *model) cut(path string) api.Errno {
	for _, p := range m.roots {
		if p == path {
			return api.ErrInUse
		}
	}
	code := m.kept.Cut(path)
	if code == api.OK {
		m.log += line("cut", path)
	}
	return code
}

func (m *model) setRoot(name, path string) api.Errno {
	if code := spath.CheckLabel(name); code != api.OK {
		return code
	}
	if !m.kept.Has(path) {
		return api.ErrMissing
	}
	if old, there := m.roots[name]; !there || old != path {
		m.roots[name] = path
		m.log += line("root", name, path)
	}
	return api.OK
}

func (m *model) dropRoot(name string) api.Errno {
	if _, there := m.roots[name]; !there {
		return api.ErrMissing
	}
	delete(m.roots, name)
	m.log += line("unroot", name)
	return api.OK
}

func (m *model) collect(uses []sweep.Use, want int) ([]string, int) {
	paths, gained := sweep.Collect(m.kept, slices.Collect(maps.Values(m.roots)), uses, want)
	for _, path := range paths {
		m.log += line("cut", path)
	}
	return paths, gained
}

func (m *model) compact() {
	m.log = ""
	order, _ := m.kept.Order(m.kept.Paths())
	for _, path := range order {
		r, _ := m.kept.Get(path)
		m.log += line("import", stream(r))
	}
	for _, name := range slices.Sorted(maps.Keys(m.roots)) {
		m.log += line("root", name, m.roots[name])
	}
}

// openStory: what the document says of Open.
func openStory(text string) (*model, int, api.Fault) {
	m := newModel()
	from := 0
	for len(text)-from >= 8 {
		n := binary.LittleEndian.Uint64([]byte(text[from : from+8]))
		if n > 2097152 || n%8 != 0 {
			return nil, 0, fault(api.ErrRecord, from)
		}
		if uint64(len(text)-from-8) < n {
			break
		}
		to := from + 8 + int(n)
		m.redo(wordsOf(text[from+8 : to]))
		if m.log != text[:to] {
			return nil, 0, fault(api.ErrRecord, from)
		}
		from = to
	}
	return m, from, api.Fault{}
}

// wordsOf: the words of a payload; none, if it isn't made of words.
func wordsOf(payload string) []string {
	var words []string
	for payload != "" {
		if len(payload) < 8 {
			return nil
		}
		n := binary.LittleEndian.Uint64([]byte(payload))
		if n > uint64(len(payload)-8) {
			return nil
		}
		word := payload[8 : 8+n]
		rest, fits := strings.CutPrefix(payload, text(word))
		if !fits {
			return nil
		}
		words, payload = append(words, word), rest
	}
	return words
}

// redo makes a record's change; a wrong one leaves the log as it is.
func (m *model) redo(words []string) {
	switch {
	case len(words) == 2 && words[0] == "import":
		m.imports(words[1])
	case len(words) == 2 && words[0] == "cut":
		m.cut(words[1])
	case len(words) == 3 && words[0] == "root":
		m.setRoot(words[1], words[2])
	case len(words) == 2 && words[0] == "unroot":
		m.dropRoot(words[1])
	}
}

// scribble writes over a list, its spare room too.
func scribble[T any](list []T) {
	list = list[:cap(list)]
	var zero T
	for i := range list {
		list[i] = zero
	}
}

// view is what is promoted from the store.
type view interface {
	Has(path string) bool
	Get(path string) (api.Record, api.Errno)
	Paths() []string
	Len() int
	Bytes() int
	Refs(path string) ([]string, api.Errno)
	Referrers(path string) ([]string, api.Errno)
	Closure(roots []string) ([]string, api.Errno)
	Order(roots []string) ([]string, api.Errno)
}

// asked: everything that a view answers of some paths.
func asked(v view, paths []string) []any {
	all := []any{v.Paths(), v.Len(), v.Bytes()}
	for _, path := range slices.Concat(paths, []string{"", "x", at('0', "none")}) {
		r, code := v.Get(path)
		refs, code1 := v.Refs(path)
		users, code2 := v.Referrers(path)
		reached, code3 := v.Closure([]string{path})
		order, code4 := v.Order([]string{path})
		all = append(all, v.Has(path), r, code, refs, code1, users, code2, reached, code3, order, code4)
	}
	order, code := v.Order(paths)
	return append(all, order, code)
}

// holdDepot asks a depot everything and holds it against the model.
func holdDepot(t *testing.T, d *log.Depot, want *model, others ...string) {
	t.Helper()
	if d.Log() != want.log {
		t.Fatalf("Log = %q, not %q", d.Log(), want.log)
	}
	var roots []api.Root
	for _, name := range slices.Sorted(maps.Keys(want.roots)) {
		roots = append(roots, api.Root{Name: name, Path: want.roots[name]})
	}
	got := d.Roots()
	if !slices.Equal(got, roots) {
		t.Fatalf("Roots = %v, not %v", got, roots)
	}
	scribble(got)
	paths := want.kept.Paths()
	others = slices.Concat(paths, others)
	answers := asked(want.kept, others)
	if got := asked(d, others); !reflect.DeepEqual(got, answers) {
		t.Fatalf("the depot answers %v, not %v", got, answers)
	}
	fork := d.Store()
	if got := asked(fork, others); !reflect.DeepEqual(got, answers) {
		t.Fatalf("the depot's store answers %v, not %v", got, answers)
	}
	for _, path := range slices.Backward(paths) {
		fork.Cut(path) // of the fork alone
	}
	holdExport(t, d, want)
	holdExport(t, d, want, paths...)
	holdExport(t, d, want, others...)
}

// holdExport holds Export of some paths against the model.
func holdExport(t *testing.T, d *log.Depot, want *model, paths ...string) {
	t.Helper()
	given := slices.Clone(paths)
	stream, code := closure.Export(want.kept, paths)
	if got, c := d.Export(paths); got != stream || c != code || !slices.Equal(paths, given) {
		t.Fatalf("Export(%q) = %q, %d, not %q, %d", paths, got, c, stream, code)
	}
}

// opened: Open of the text, held against the story; nil behind a fault.
func opened(t *testing.T, text string) (*log.Depot, *model) {
	t.Helper()
	want, size, f := openStory(text)
	d, n, got := log.Open(text)
	if (d == nil) != (want == nil) || n != size || got != f {
		t.Fatalf("Open = %v, %d, %v, not %v, %d, %v", d, n, got, want, size, f)
	}
	if d != nil {
		holdDepot(t, d, want)
	}
	return d, want
}
