package log_test

import (
	"math"
	"math/rand"
	"slices"
	"strings"
	"testing"

	"depot/api"
	"depot/log"
)

// holdFault: Open refuses the text with ErrRecord at that place, and answers nothing beside.
func holdFault(t *testing.T, text string, at int) {
	t.Helper()
	if d, n, f := log.Open(text); d != nil || n != 0 || f != fault(api.ErrRecord, at) {
		t.Errorf("Open(..%q) = %v, %d, %v, not ErrRecord at %d", text[max(0, len(text)-200):], d, n, f, at)
	}
}

func TestOpenOfShortTexts(t *testing.T) { // P20.7
	for i := range 8 {
		for _, text := range []string{strings.Repeat("\x00", i), strings.Repeat("\xff", i)} {
			if d, n, f := log.Open(text); d == nil || n != 0 || f != (api.Fault{}) || d.Log() != "" || d.Len() != 0 {
				t.Errorf("Open(%q) = %v, %d, %v", text, d, n, f)
			}
		}
	}
}

func TestOpenOfLengths(t *testing.T) { // P20.7
	a, _, _ := some()
	whole := line("import", stream(a))
	for _, before := range []string{"", whole} {
		for _, n := range []uint64{1, 4, 7, 9, 12, api.MaxRecord - 1, api.MaxRecord + 1, api.MaxRecord + 8, 1 << 31, 1 << 32, 1<<32 + 8, 1 << 62, 1 << 63, 1<<63 + 8, math.MaxUint64, math.MaxUint64 - 7} {
			for _, behind := range []string{"", "x", strings.Repeat("x", 24)} {
				holdFault(t, before+number(n)+behind, len(before))
			}
		}
		for _, n := range []int{8, 16, 24, 88, api.MaxRecord - 8, api.MaxRecord} { // not whole
			for _, behind := range []int{0, 1, 7, 8, n - 1} {
				text := before + number(uint64(n)) + strings.Repeat("x", min(behind, n-1))
				if d, size, f := log.Open(text); d == nil || size != len(before) || f != (api.Fault{}) || d.Log() != before {
					t.Errorf("Open of %d of %d bytes = %v, %d, %v", behind, n, d, size, f)
				}
			}
			holdFault(t, before+number(uint64(n))+strings.Repeat("x", n), len(before))
		}
		holdFault(t, before+number(0), len(before)) // a payload without words
	}
}

func TestOpenOfWrongForms(t *testing.T) { // P20.7
	a, b, c := some()
	before := line("import", stream(a, b)) + line("root", "main", b.Path)
	if d, n, f := log.Open(before); d == nil || n != len(before) || f != (api.Fault{}) {
		t.Fatalf("Open = %d, %v", n, f)
	}
	right := []string{
		line("import", stream(c)), line("root", "x", a.Path), line("root", "main", a.Path), line("unroot", "main"),
		line("import", stream(a, c)),
	}
	for _, text := range right {
		opened(t, before+text)
		opened(t, before+text+"torn")
	}
	wrong := []string{
		line("import"), line("cut"), line("root"), line("unroot"), line(""), line("", ""), line(),
		line("root", "x"), line("root", a.Path), line("root", "x", a.Path, ""), line("root", "x", a.Path, "x"),
		line("unroot", "main", ""), line("unroot", "main", b.Path), line("unroot", "main", "", ""),
		line("import", stream(c), ""), line("import", stream(c), stream()), line("import", "", stream(c)),
		line("cut", c.Path, ""), line("cut", "", c.Path), line("unroots", "main"), line("Unroot", "main"), line("unroot ", "main"), line("nroot", "main"),
		line("IMPORT", stream(c)), line("insert", stream(c)), line("import\x00", stream(c)), line(" import", stream(c)),
		line("Root", "x", a.Path), line("import", "x", a.Path), line("cut", "x", a.Path), line("rooted", "x", a.Path),
		text(stream(c)),
		text(text("unroot") + text("main") + number(0)),                                     // an empty word more
		text(text("unroot") + text("main") + number(1)),                                     // a word that isn't whole
		text(text("unroot") + text("main")[:8]),                                             // likewise
		text(text("unroot") + number(4) + "main\x00\x00\x00\x01"),                           // the padding
		text(text("unroot") + number(4) + "main\x01\x00\x00\x00"),                           // likewise
		text(number(6) + "unroot\x00\x01" + text("main")),                                   // likewise
		text(text("unroot") + number(5) + "main\x00\x00\x00\x00"),                           // another name
		text(text("unroot") + number(api.MaxRecord+1) + "main\x00\x00\x00\x00"),             // longer than it may be
		text(text("unroot") + number(1<<63) + "main\x00\x00\x00\x00"),                       // likewise
		text(text("root") + text("x") + number(math.MaxUint64) + text(a.Path)),              // likewise
		text(number(math.MaxUint64) + "unroot\x00\x00" + text("main")),                      // likewise
		text(strings.Repeat("\x00", 8)), text(strings.Repeat("\x00", 16)), number(0) + "xx", // nothing but noughts
	}
	for _, text := range wrong {
		holdFault(t, before+text, len(before))
		holdFault(t, before+text+line("unroot", "main"), len(before))
		opened(t, before+text)
	}
}

func TestOpenOfWrongRecords(t *testing.T) { // P20.7: what a call refuses, and what changes nothing
	a, b, c := some()
	before := line("import", stream(a, b)) + line("root", "main", b.Path) + line("import", stream(c))
	wrong := []string{
		line("import", ""), line("import", "x"), line("import", number(2)), line("import", stream(record(at('1', "x"), file("")))+"x"),
		line("import", stream(record(at('1', "x"), file("")))[:280]), line("import", stream(record(a.Path, file("other")))),
		line("import", stream(record(at('1', "x"), file(""), at('2', "none")))),
		line("import", stream()), line("import", stream(a)), line("import", stream(a, b, c)), // nothing is new
		line("cut", ""), line("cut", "main"), line("cut", at('1', "none")), // not there
		line("cut", a.Path), line("cut", b.Path), // in use
		line("root", "", a.Path), line("root", ".x", a.Path), line("root", strings.Repeat("n", 212), a.Path), // no name
		line("root", "x", ""), line("root", "x", at('1', "none")), line("root", "main", at('1', "none")), // not there
		line("root", "main", b.Path),                                                           // it stands for it already
		line("unroot", ""), line("unroot", "x"), line("unroot", b.Path), line("unroot", "mai"), // not there
	}
	for _, text := range wrong {
		holdFault(t, before+text, len(before))
		holdFault(t, before+text+line("root", "x", a.Path), len(before))
		opened(t, before+text)
	}
	more := before + line("root", "y", a.Path)
	for i := range wrong { // the first wrong one counts
		holdFault(t, more+wrong[i]+wrong[(i+5)%len(wrong)], len(more))
	}
	rooted := before + line("root", "c", c.Path)
	holdFault(t, rooted+line("cut", c.Path), len(rooted)) // in use by its name
	opened(t, rooted+line("unroot", "c")+line("cut", c.Path))
	opened(t, rooted+line("root", "c", a.Path)+line("cut", c.Path))
}

// longLog: a log with all kinds of records, made by the calls; and where its records end.
func longLog(t *testing.T) (string, []int) {
	t.Helper()
	a, b, c := some()
	d := with(t, a).root(t, "main", a.Path)
	ends := []int{0, len(line("import", stream(a))), len(d.Log())}
	calls := []func(){
		func() { d.Import(stream(a, b, c)) },
		func() { d.SetRoot("main", b.Path) },
		func() { d.SetRoot("c", c.Path) },
		func() { d.Add("added", dir(in("x", file(""))), []string{c.Path}) },
		func() { d.Collect(nil, 1) },
		func() { d.DropRoot("c") },
		func() { d.Cut(c.Path) },
		func() { d.Insert(c) },
	}
	for _, call := range calls {
		call()
		ends = append(ends, len(d.Log()))
	}
	if !slices.IsSorted(ends) || len(slices.Compact(slices.Clone(ends))) != len(ends) {
		t.Fatalf("the records end at %v", ends)
	}
	return d.Log(), ends
}

func TestOpenOfCutLogs(t *testing.T) { // P20.7: a log that was cut anywhere
	text, ends := longLog(t)
	last := 0
	for size := range len(text) + 1 {
		if slices.Contains(ends, size) {
			last = size
			opened(t, text[:size])
		}
		d, n, f := log.Open(text[:size])
		if d == nil || n != last || f != (api.Fault{}) || d.Log() != text[:last] {
			t.Fatalf("Open of %d bytes = %v, %d, %v", size, d, n, f)
		}
	}
}

func TestOpenGoesOn(t *testing.T) { // P20.7: behind Open records are written as if nothing had been lost
	text, ends := longLog(t)
	x := record(at('1', "x"), file("x"))
	for _, end := range ends {
		for _, torn := range []string{"", "torn", text[end:min(end+20, len(text))]} {
			d, n, _ := log.Open(text[:end] + torn)
			if n != end || d.Insert(x) != api.OK || d.Log() != text[:end]+line("import", stream(x)) {
				t.Errorf("behind %d bytes: %q", end, d.Log())
			}
		}
	}
}

func TestOpenOfSpoiledLogs(t *testing.T) { // P20.7
	random := rand.New(rand.NewSource(2))
	text, ends := longLog(t)
	var lines []string
	for i := range len(ends) - 1 {
		lines = append(lines, text[ends[i]:ends[i+1]])
	}
	for range 4000 {
		some := slices.Clone(lines)
		i, j := random.Intn(len(some)), random.Intn(len(some))
		b := []byte(some[i])
		switch random.Intn(7) {
		case 0:
			b[random.Intn(len(b))] ^= 1 << random.Intn(8)
		case 1:
			b[random.Intn(min(len(b), 64))] ^= 1 << random.Intn(8)
		case 2:
			b = b[:random.Intn(len(b))]
		case 3:
			b = append(b, some[j]...)
		case 4:
			b = []byte(some[j])
		case 5:
			some[i], some[j] = some[j], some[i]
			b = []byte(some[i])
		case 6:
			b[random.Intn(8)] = byte(random.Intn(256))
		}
		some[i] = string(b)
		opened(t, strings.Join(some, ""))
	}
}

func TestOpenOfRandomBytes(t *testing.T) { // P1, P20.7
	random := rand.New(rand.NewSource(3))
	for range 3000 {
		b := make([]byte, random.Intn(64))
		for i := range b {
			if random.Intn(3) == 0 {
				b[i] = byte(random.Intn(256))
			}
		}
		if len(b) > 8 {
			clear(b[1:8])
		}
		opened(t, string(b))
	}
}

func TestOpenOfManyRecords(t *testing.T) { // P1
	const count = 2000
	d := fresh(t)
	for i := range count {
		path, _ := d.Add("n", file(strings.Repeat("x", i)), nil)
		d.SetRoot("r"+path[13:20], path)
	}
	x, n, f := log.Open(d.Log())
	if f != (api.Fault{}) || n != len(d.Log()) || x.Len() != count || !slices.Equal(x.Roots(), d.Roots()) {
		t.Errorf("Open = %d, %v", n, f)
	}
}
