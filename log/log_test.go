package log_test

import (
	"math"
	"math/rand"
	"slices"
	"strings"
	"testing"

	"depot/api"
	"depot/log"
	"depot/sweep"
)

// both is a depot and the model that it is held against.
type both struct {
	*log.Depot
	want *model
}

// fresh: an empty depot.
func fresh(t *testing.T) both {
	t.Helper()
	d, n, f := log.Open("")
	if d == nil || n != 0 || f != (api.Fault{}) {
		t.Fatalf("Open of nothing = %v, %d, %v", d, n, f)
	}
	return both{d, newModel()}
}

// with: a depot with these records.
func with(t *testing.T, records ...api.Record) both {
	t.Helper()
	b := fresh(t)
	for _, r := range records {
		if code := b.Insert(r); code != api.OK || b.want.insert(r) != api.OK {
			t.Fatalf("Insert of %s = %d", r.Path, code)
		}
	}
	holdDepot(t, b.Depot, b.want)
	return b
}

// root gives a path a name.
func (b both) root(t *testing.T, name, path string) both {
	t.Helper()
	if code := b.SetRoot(name, path); code != api.OK || b.want.setRoot(name, path) != api.OK {
		t.Fatalf("SetRoot(%q, %q) = %d", name, path, code)
	}
	return b
}

// some: records of which the later ones refer to earlier ones, one to itself.
func some() (a, b, c api.Record) {
	a = record(at('9', "a"), file("x"))
	b = record(at('0', "b"), dir(in("k", link("l"))), at('0', "b"), at('9', "a"))
	c = record(at('5', "c"), file("some more"), at('0', "b"))
	return a, b, c
}

func TestMaxStream(t *testing.T) {
	if log.MaxStream != 2097120 {
		t.Errorf("MaxStream = %d", log.MaxStream)
	}
}

func TestRecordsByteByByte(t *testing.T) { // P20.1, P20.2
	d := fresh(t)
	path := at('0', "p")
	d.Insert(record(path, dir(), path))
	entry := "\x01\x00\x00\x00\x00\x00\x00\x00" + archive(dir()) +
		"\x0f\x00\x00\x00\x00\x00\x00\x00depot-closure-1\x00" +
		"\x2f\x00\x00\x00\x00\x00\x00\x00/depot/store/00000000000000000000000000000000-p\x00" +
		"\x01\x00\x00\x00\x00\x00\x00\x00" +
		"\x2f\x00\x00\x00\x00\x00\x00\x00/depot/store/00000000000000000000000000000000-p\x00" +
		"\x40\x00\x00\x00\x00\x00\x00\x00" + digits(dir()) +
		"\x00\x00\x00\x00\x00\x00\x00\x00"
	want := number(uint64(24+len(entry))) + "\x06\x00\x00\x00\x00\x00\x00\x00import\x00\x00" + number(uint64(len(entry))) + entry
	if got := d.Log(); got != want {
		t.Fatalf("Insert writes %q, not %q", got, want)
	}
	d.SetRoot("main", path)
	want += "\x58\x00\x00\x00\x00\x00\x00\x00" + "\x04\x00\x00\x00\x00\x00\x00\x00root\x00\x00\x00\x00" +
		"\x04\x00\x00\x00\x00\x00\x00\x00main\x00\x00\x00\x00" +
		"\x2f\x00\x00\x00\x00\x00\x00\x00/depot/store/00000000000000000000000000000000-p\x00"
	if got := d.Log(); got != want {
		t.Fatalf("SetRoot writes %q, not %q", got, want)
	}
	d.DropRoot("main")
	want += "\x20\x00\x00\x00\x00\x00\x00\x00" + "\x06\x00\x00\x00\x00\x00\x00\x00unroot\x00\x00" +
		"\x04\x00\x00\x00\x00\x00\x00\x00main\x00\x00\x00\x00"
	if got := d.Log(); got != want {
		t.Fatalf("DropRoot writes %q, not %q", got, want)
	}
	d.Cut(path)
	want += "\x48\x00\x00\x00\x00\x00\x00\x00" + "\x03\x00\x00\x00\x00\x00\x00\x00cut\x00\x00\x00\x00\x00" +
		"\x2f\x00\x00\x00\x00\x00\x00\x00/depot/store/00000000000000000000000000000000-p\x00"
	if got := d.Log(); got != want {
		t.Fatalf("Cut writes %q, not %q", got, want)
	}
}

func TestInsert(t *testing.T) { // P20.1, P20.2
	a, b, c := some()
	d := with(t, a, b)
	refused := []struct {
		r    api.Record
		code api.Errno
	}{
		{api.Record{}, api.ErrPath},
		{record(at('1', "x"), api.Node{}), api.ErrKind},
		{api.Record{Path: c.Path, Tree: c.Tree, Hash: c.Hash, Size: c.Size + 1}, api.ErrSize},
		{api.Record{Path: c.Path, Tree: c.Tree, Hash: a.Hash, Size: c.Size}, api.ErrHash},
		{record(c.Path, c.Tree, a.Path, b.Path), api.ErrRefs},
		{record(c.Path, c.Tree, at('1', "none")), api.ErrMissing},
		{record(a.Path, c.Tree), api.ErrClash},
		{record(a.Path, a.Tree, b.Path), api.ErrClash},
		{a, api.OK}, // it is there
		{b, api.OK},
	}
	for i, row := range refused {
		if code := d.Insert(row.r); code != row.code {
			t.Errorf("%d: Insert = %d, not %d", i, code, row.code)
		}
		holdDepot(t, d.Depot, d.want, c.Path)
	}
	if code := d.Insert(c); code != api.OK || d.want.insert(c) != api.OK {
		t.Errorf("Insert = %d", code)
	}
	holdDepot(t, d.Depot, d.want)
	if want := line("import", stream(a)) + line("import", stream(b)) + line("import", stream(c)); d.Log() != want {
		t.Errorf("Log = %q, not %q", d.Log(), want)
	}
}

func TestAdd(t *testing.T) { // P20.1, P20.2
	d := fresh(t)
	low, code := d.Add("low", file("x"), nil)
	want, _ := d.want.add("low", file("x"), nil)
	if low != want || code != api.OK {
		t.Fatalf("Add = %q, %d", low, code)
	}
	holdDepot(t, d.Depot, d.want)
	high, code := d.Add("high", dir(in("a", file("y"))), []string{low})
	want, _ = d.want.add("high", dir(in("a", file("y"))), []string{low})
	if high != want || code != api.OK {
		t.Fatalf("Add = %q, %d", high, code)
	}
	holdDepot(t, d.Depot, d.want)
	if want := line("import", stream(record(low, file("x")))) + line("import", stream(record(high, dir(in("a", file("y"))), low))); d.Log() != want {
		t.Errorf("Log = %q, not %q", d.Log(), want)
	}
	rows := []struct {
		label string
		n     api.Node
		refs  []string
		path  string
		code  api.Errno
	}{
		{"low", file("x"), nil, low, api.OK}, // it is there
		{"low", file("x"), []string{}, low, api.OK},
		{"high", dir(in("a", file("y"))), []string{low}, high, api.OK},
		{"low", api.Node{}, nil, "", api.ErrKind},
		{".x", file("x"), nil, "", api.ErrName},
		{"x", file("x"), []string{"x"}, "", api.ErrRefs},
		{"x", file("x"), []string{at('1', "none")}, "", api.ErrMissing},
		{"x", file("x"), []string{low, low}, "", api.ErrRefs},
	}
	for i, row := range rows {
		if path, code := d.Add(row.label, row.n, row.refs); path != row.path || code != row.code {
			t.Errorf("%d: Add = %q, %d", i, path, code)
		}
		holdDepot(t, d.Depot, d.want)
	}
}

func TestAddClash(t *testing.T) { // P20.2: the path that is made has another tree already
	path, _ := fresh(t).Add("x", file("x"), nil)
	d := with(t, record(path, file("another")))
	if got, code := d.Add("x", file("x"), nil); got != "" || code != api.ErrClash {
		t.Errorf("Add = %q, %d", got, code)
	}
	holdDepot(t, d.Depot, d.want)
}

func TestImport(t *testing.T) { // P20.1, P20.3
	a, b, c := some()
	rows := []struct {
		kept  []api.Record
		text  string
		fresh []string
		fault api.Fault
	}{
		{nil, stream(a), []string{a.Path}, api.Fault{}},
		{nil, stream(a, b, c), []string{a.Path, b.Path, c.Path}, api.Fault{}},
		{[]api.Record{a, b}, stream(a, b, c), []string{c.Path}, api.Fault{}},
		{[]api.Record{a}, stream(b, b), []string{b.Path}, api.Fault{}},
		{[]api.Record{a}, stream(a), nil, api.Fault{}}, // nothing is new
		{nil, stream(), nil, api.Fault{}},
		{nil, "", nil, fault(api.ErrShort, 0)},
		{nil, number(2), nil, fault(api.ErrMark, 0)},
		{nil, stream(a) + "x", nil, fault(api.ErrTrail, len(stream(a)))},
		{nil, stream(a)[:200], nil, fault(api.ErrShort, 200)},
		{[]api.Record{a}, stream(record(at('1', "x"), file("")), record(a.Path, file("other"))), nil, fault(api.ErrClash, len(stream(record(at('1', "x"), file(""))))-8)},
	}
	for i, row := range rows {
		d := with(t, row.kept...)
		fresh, f := d.Import(row.text)
		if !slices.Equal(fresh, row.fresh) || f != row.fault {
			t.Errorf("%d: Import = %q, %v", i, fresh, f)
		}
		scribble(fresh)
		before := d.want.log
		d.want.imports(row.text)
		if len(row.fresh) > 0 != (d.Log() == before+line("import", row.text)) {
			t.Errorf("%d: Log = %q", i, d.Log())
		}
		holdDepot(t, d.Depot, d.want, a.Path, b.Path, c.Path)
	}
}

// huge: a stream of so many bytes, of two files.
func huge(size int) string {
	rest := file(strings.Repeat("y", size-(8+2*168+2*112)-(api.MaxArchive-112)))
	return stream(record(at('1', "x"), file(strings.Repeat("x", api.MaxArchive-112))), record(at('2', "y"), rest))
}

func TestImportOfTheLongestStream(t *testing.T) { // P20.3
	most, above := huge(log.MaxStream), huge(log.MaxStream+8)
	if len(most) != log.MaxStream || len(above) != log.MaxStream+8 {
		t.Fatal(len(most), len(above))
	}
	d := fresh(t)
	for _, text := range []string{above, most + "\x00", strings.Repeat("x", log.MaxStream+1), strings.Repeat("\x00", api.MaxRecord)} {
		if fresh, f := d.Import(text); len(fresh) != 0 || f != fault(api.ErrBig, 0) || d.Log() != "" || d.Len() != 0 {
			t.Errorf("Import of %d bytes = %q, %v", len(text), fresh, f)
		}
	}
	if _, f := d.Import(strings.Repeat("x", log.MaxStream)); f != fault(api.ErrMark, 0) {
		t.Errorf("Import of %d wrong bytes: %v", log.MaxStream, f)
	}
	if fresh, f := d.Import(most); len(fresh) != 2 || f != (api.Fault{}) || d.Log() != line("import", most) {
		t.Fatalf("Import of %d bytes = %q, %v", len(most), fresh, f)
	}
	if x, n, f := log.Open(d.Log()); x == nil || n != 24+8+log.MaxStream || f != (api.Fault{}) || x.Len() != 2 || x.Log() != d.Log() {
		t.Errorf("Open = %d, %v", n, f)
	}
	if _, n, f := log.Open(line("import", above)); n != 0 || f != fault(api.ErrRecord, 0) {
		t.Errorf("Open of a stream that is too long = %d, %v", n, f)
	}
}

func TestInsertOfTheGreatestRecord(t *testing.T) { // P20.2, P20.6, P20.7: the record of every path can be opened
	label := strings.Repeat("l", api.MaxLabel)
	var refs []string
	d := fresh(t)
	for i := range api.MaxRefs {
		refs = append(refs, numbered(i, label))
		d.Insert(record(refs[i], dir()))
	}
	r := record(at('z', label), file(strings.Repeat("x", api.MaxArchive-112)), refs...)
	before := d.Log()
	if code := d.Insert(r); code != api.OK || d.Log() != before+line("import", stream(r)) {
		t.Fatalf("Insert = %d", code)
	}
	for range 2 {
		if x, n, f := log.Open(d.Log()); f != (api.Fault{}) || n != len(d.Log()) || x.Len() != api.MaxRefs+1 || x.Bytes() != d.Bytes() {
			t.Errorf("Open = %d, %v", n, f)
		}
		d.Compact()
	}
}

func TestCut(t *testing.T) { // P20.1, P20.4
	a, b, c := some()
	d := with(t, a, b, c).root(t, "main", c.Path).root(t, "other", c.Path).root(t, "low", a.Path)
	holdCut := func(path string, code api.Errno) {
		t.Helper()
		if got := d.Cut(path); got != code || d.want.cut(path) != code {
			t.Errorf("Cut(%q) = %d, not %d", path, got, code)
		}
		holdDepot(t, d.Depot, d.want, a.Path, b.Path, c.Path)
	}
	holdCut("", api.ErrMissing)
	holdCut("main", api.ErrMissing)
	holdCut(at('1', "none"), api.ErrMissing)
	holdCut(c.Path, api.ErrInUse) // by its names
	holdCut(b.Path, api.ErrInUse) // by c
	d.DropRoot("main")
	d.want.dropRoot("main")
	holdCut(c.Path, api.ErrInUse) // by its other name
	d.DropRoot("other")
	d.want.dropRoot("other")
	holdCut(c.Path, api.OK)
	holdCut(c.Path, api.ErrMissing)
	holdCut(b.Path, api.OK)       // though it refers to itself
	holdCut(a.Path, api.ErrInUse) // by its name alone
	before := d.Log()
	d.DropRoot("low")
	d.want.dropRoot("low")
	holdCut(a.Path, api.OK)
	if d.Log() != before+line("unroot", "low")+line("cut", a.Path) || d.Len() != 0 {
		t.Errorf("Log = %q", d.Log())
	}
}

func TestRoots(t *testing.T) { // P20.1, P20.4
	a, b, _ := some()
	d := with(t, a, b)
	long := strings.Repeat("n", api.MaxLabel)
	rows := []struct {
		name, path string
		code       api.Errno
		record     bool
	}{
		{"main", a.Path, api.OK, true},
		{"main", a.Path, api.OK, false}, // it stands for it already
		{"main", b.Path, api.OK, true},
		{"main", b.Path, api.OK, false},
		{"main", a.Path, api.OK, true},
		{"a", a.Path, api.OK, true}, // another name for the same path
		{"B", b.Path, api.OK, true},
		{"=?+-._9", b.Path, api.OK, true},
		{long, b.Path, api.OK, true},
		{long + "n", b.Path, api.ErrName, false},
		{"", a.Path, api.ErrName, false},
		{".x", a.Path, api.ErrName, false},
		{"a b", a.Path, api.ErrName, false},
		{"a/b", "x", api.ErrName, false}, // ahead of ErrMissing
		{"\x00", a.Path, api.ErrName, false},
		{"x", "y", api.ErrMissing, false},
		{"x", "", api.ErrMissing, false},
		{"main", at('1', "none"), api.ErrMissing, false},
		{"main", a.Path + "a", api.ErrMissing, false},
	}
	for _, row := range rows {
		before := d.Log()
		if code := d.SetRoot(row.name, row.path); code != row.code || d.want.setRoot(row.name, row.path) != row.code {
			t.Errorf("SetRoot(%q, %q) = %d, not %d", row.name, row.path, code, row.code)
		}
		if row.record != (d.Log() == before+line("root", row.name, row.path)) || !row.record && d.Log() != before {
			t.Errorf("SetRoot(%q, %q) writes %q", row.name, row.path, d.Log()[len(before):])
		}
		holdDepot(t, d.Depot, d.want)
	}
	for _, name := range []string{"none", "", "A", a.Path, long + "n", "main", "main", "a", "B", "=?+-._9", long, long} {
		before := d.Log()
		code := d.DropRoot(name)
		if want := d.want.dropRoot(name); code != want {
			t.Errorf("DropRoot(%q) = %d, not %d", name, code, want)
		}
		if code == api.OK && d.Log() != before+line("unroot", name) {
			t.Errorf("DropRoot(%q) writes %q", name, d.Log()[len(before):])
		}
		holdDepot(t, d.Depot, d.want)
	}
	if len(d.Roots()) != 0 || d.SetRoot("main", a.Path) != api.OK || len(d.Roots()) != 1 {
		t.Error("a root set behind all others' end")
	}
}

func TestCollect(t *testing.T) { // P20.1, P20.5
	a, b, c := some()
	e := record(at('8', "e"), file(strings.Repeat("e", 400)))
	f := record(at('7', "f"), file(strings.Repeat("f", 500)), e.Path)
	records := []api.Record{a, b, c, e, f}
	rows := []struct {
		roots []string
		uses  []sweep.Use
		want  int
		went  []string
	}{
		{nil, nil, math.MaxInt, []string{f.Path, e.Path, c.Path, b.Path, a.Path}},
		{nil, nil, 0, nil},
		{nil, nil, -1, nil},
		{nil, nil, 1, []string{f.Path}},
		{nil, []sweep.Use{{Path: f.Path, Count: 100}}, 1, []string{c.Path}},
		{nil, []sweep.Use{{Path: f.Path, Count: 100}, {Path: f.Path}}, 1, []string{f.Path}},
		{[]string{f.Path}, nil, math.MaxInt, []string{c.Path, b.Path, a.Path}},
		{[]string{b.Path, b.Path}, nil, math.MaxInt, []string{f.Path, e.Path, c.Path}},
		{[]string{b.Path, e.Path}, nil, math.MaxInt, []string{f.Path, c.Path}},
		{[]string{c.Path, f.Path}, nil, math.MaxInt, nil},
	}
	for i, row := range rows {
		d := with(t, records...)
		for j, path := range row.roots {
			d.root(t, "root"+string(rune('0'+j)), path)
		}
		before := d.Log()
		given := slices.Clone(row.uses)
		paths, gained := d.Collect(row.uses, row.want)
		_, sum := d.want.collect(row.uses, row.want)
		if !slices.Equal(paths, row.went) || gained != sum || !slices.Equal(row.uses, given) {
			t.Errorf("%d: Collect = %q, %d, not %q, %d", i, paths, gained, row.went, sum)
		}
		for _, path := range row.went {
			before += line("cut", path)
		}
		if d.Log() != before {
			t.Errorf("%d: Log = %q", i, d.Log())
		}
		scribble(paths)
		holdDepot(t, d.Depot, d.want, a.Path, b.Path, c.Path)
		opened(t, d.Log())
	}
}

func TestExport(t *testing.T) { // P20.6
	a, b, c := some()
	d := with(t, a, b, c)
	if got, code := d.Export([]string{b.Path}); got != stream(a, b) || code != api.OK {
		t.Errorf("Export = %q, %d", got, code)
	}
	if got, code := d.Export([]string{b.Path, at('1', "none")}); got != "" || code != api.ErrMissing {
		t.Errorf("Export = %q, %d", got, code)
	}
	if got, code := d.Export(nil); got != number(0) || code != api.OK {
		t.Errorf("Export = %q, %d", got, code)
	}
	holdDepot(t, d.Depot, d.want)
}

func TestStore(t *testing.T) { // P20.6: the store that is answered goes on by itself
	a, b, c := some()
	d := with(t, a, b)
	s := d.Store()
	if s.Insert(c) != api.OK || s.Cut(c.Path) != api.OK || s.Cut(b.Path) != api.OK {
		t.Fatal("the fork refuses")
	}
	holdDepot(t, d.Depot, d.want, c.Path)
	s = d.Store()
	d.Insert(c)
	d.want.insert(c)
	if s.Has(c.Path) || s.Len() != 2 {
		t.Error("the fork changes with the depot")
	}
	holdDepot(t, d.Depot, d.want)
}

func TestCompact(t *testing.T) { // P20.6
	a, b, c := some()
	d := with(t, a, b, c).root(t, "z", c.Path).root(t, "m", a.Path).root(t, "m", b.Path).root(t, "a", b.Path)
	gone := record(at('1', "gone"), file("gone"))
	d.Insert(gone)
	d.Cut(gone.Path)
	d.Import(stream(a, record(at('2', "e"), file("e")), record(at('1', "f"), dir(), at('2', "e"))))
	d.Compact()
	want := line("import", stream(record(at('2', "e"), file("e")))) + line("import", stream(record(at('1', "f"), dir(), at('2', "e")))) +
		line("import", stream(a)) + line("import", stream(b)) + line("import", stream(c)) +
		line("root", "a", b.Path) + line("root", "m", b.Path) + line("root", "z", c.Path)
	if d.Log() != want {
		t.Errorf("Log = %q, not %q", d.Log(), want)
	}
	d.want.imports(stream(a, record(at('2', "e"), file("e")), record(at('1', "f"), dir(), at('2', "e"))))
	d.want.compact()
	for range 2 {
		holdDepot(t, d.Depot, d.want, gone.Path)
		opened(t, d.Log())
		d.Compact()
	}
	d.root(t, "y", a.Path)
	holdDepot(t, d.Depot, d.want)
	opened(t, d.Log())
	nothing := fresh(t)
	nothing.Compact()
	holdDepot(t, nothing.Depot, nothing.want)
}

func TestNothingIsShared(t *testing.T) { // rule 4
	kids := append(make([]api.Entry, 0, 4), in("a", file("x")))
	low := at('0', "low")
	refs := append(make([]string, 0, 4), low)
	d := with(t, record(low, file("low")))
	r := record(at('1', "high"), dir(kids...), refs...)
	r.Tree.Kids, r.Refs = kids, refs
	d.Insert(r)
	d.want.insert(r)
	path, _ := d.Add("added", r.Tree, refs)
	d.want.add("added", r.Tree, refs)
	if len(kids) != 1 || kids[0].Name != "a" || refs[0] != low || kids[:2][1].Name != "" || refs[:2][1] != "" {
		t.Error("what was handed in is changed")
	}
	scribble(kids)
	scribble(refs)
	holdDepot(t, d.Depot, d.want)
	for _, p := range []string{r.Path, path} {
		got, _ := d.Get(p)
		scribble(got.Tree.Kids)
		scribble(got.Refs)
	}
	holdDepot(t, d.Depot, d.want)
}

func TestLogsStay(t *testing.T) { // rule 4: a text that was answered stays as it is
	d := fresh(t)
	var logs, copies []string
	for i := range 100 {
		d.Insert(record(numbered(i, "n"), file(strings.Repeat("x", 10*i))))
		if i%30 == 29 {
			d.Compact()
		}
		logs, copies = append(logs, d.Log()), append(copies, strings.Clone(d.Log()))
	}
	if !slices.Equal(logs, copies) {
		t.Error("a text changed")
	}
}

func TestDepotsAreApart(t *testing.T) { // P2
	a, b, _ := some()
	d := with(t, a)
	x, _ := opened(t, d.Log())
	x.Insert(b)
	x.SetRoot("main", b.Path)
	holdDepot(t, d.Depot, d.want, b.Path)
	d.Cut(a.Path)
	if !x.Has(a.Path) || !x.Has(b.Path) || len(x.Roots()) != 1 {
		t.Error("one depot changes with another")
	}
}

// randomTree: a small tree.
func randomTree(r *rand.Rand) api.Node {
	switch r.Intn(4) {
	case 0:
		return dir()
	case 1:
		return link("to")
	case 2:
		return dir(in("a", file(strings.Repeat("x", r.Intn(3)))), in("b", link("a")))
	}
	return api.Node{Kind: api.File, Exec: r.Intn(2) == 0, Text: strings.Repeat("y", r.Intn(4))}
}

// randomPaths: some of the paths, rising, and seldom one that isn't there.
func randomPaths(r *rand.Rand, there []string) []string {
	var paths []string
	for _, path := range there {
		if r.Intn(4) == 0 {
			paths = append(paths, path)
		}
	}
	if r.Intn(20) == 0 {
		paths = append(paths, at('z', "z"))
	}
	return paths
}

// randomChange does one thing to a depot and to its model, and holds the answers against each other.
func randomChange(t *testing.T, r *rand.Rand, d both) {
	t.Helper()
	there := d.want.kept.Paths()
	path := at("0123456789"[r.Intn(10)], "p")
	if len(there) > 0 && r.Intn(3) > 0 {
		path = there[r.Intn(len(there))]
	}
	name := []string{"a", "b", "c", "main", ".bad"}[r.Intn(5)]
	switch r.Intn(10) {
	case 0, 1:
		rec := record(path, randomTree(r), randomPaths(r, there)...)
		if got, want := d.Insert(rec), d.want.insert(rec); got != want {
			t.Fatalf("Insert = %d, not %d", got, want)
		}
	case 2, 3:
		n, refs := randomTree(r), randomPaths(r, there)
		got, code := d.Add(name, n, refs)
		if want, c := d.want.add(name, n, refs); got != want || code != c {
			t.Fatalf("Add = %q, %d, not %q, %d", got, code, want, c)
		}
	case 4:
		text := randomStream(r, d)
		got, f := d.Import(text)
		if want, f1 := d.want.imports(text); !slices.Equal(got, want) || f != f1 {
			t.Fatalf("Import = %q, %v, not %q, %v", got, f, want, f1)
		}
	case 5:
		if got, want := d.Cut(path), d.want.cut(path); got != want {
			t.Fatalf("Cut = %d, not %d", got, want)
		}
	case 6, 7:
		if got, want := d.SetRoot(name, path), d.want.setRoot(name, path); got != want {
			t.Fatalf("SetRoot = %d, not %d", got, want)
		}
	case 8:
		if got, want := d.DropRoot(name), d.want.dropRoot(name); got != want {
			t.Fatalf("DropRoot = %d, not %d", got, want)
		}
	case 9:
		uses, want := []sweep.Use{{Path: path, Count: r.Intn(5)}}, r.Intn(400)-50
		got, gained := d.Collect(uses, want)
		if paths, n := d.want.collect(uses, want); !slices.Equal(got, paths) || gained != n {
			t.Fatalf("Collect = %q, %d, not %q, %d", got, gained, paths, n)
		}
	}
	if r.Intn(25) == 0 {
		d.Compact()
		d.want.compact()
	}
}

// randomStream: of some paths that are there and some that may be new, seldom spoiled.
func randomStream(r *rand.Rand, d both) string {
	from := d.want.kept.Fork()
	for range r.Intn(3) {
		from.Insert(record(at("0123456789"[r.Intn(10)], "p"), randomTree(r), randomPaths(r, from.Paths())...))
	}
	var list []api.Record
	order, _ := from.Order(from.Paths())
	for _, path := range order {
		if rec, _ := from.Get(path); !d.want.kept.Has(path) || r.Intn(2) == 0 {
			list = append(list, rec)
		}
	}
	text := []byte(stream(list...))
	if r.Intn(4) == 0 {
		text[r.Intn(len(text))] ^= 1 << r.Intn(8)
	}
	return string(text)
}

func TestRandomChanges(t *testing.T) { // P20.1 to P20.7
	random := rand.New(rand.NewSource(1))
	for range 40 {
		d := fresh(t)
		for range 40 {
			randomChange(t, random, d)
			holdDepot(t, d.Depot, d.want, at('z', "z"))
			if random.Intn(10) == 0 { // the depot falls, and all is lost but a part of its log
				text := d.Log()
				if random.Intn(3) == 0 {
					text = text[:random.Intn(len(text)+1)]
				}
				d.Depot, d.want = opened(t, text)
			}
		}
	}
}
