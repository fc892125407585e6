package shell_test

import (
	"fmt"
	"testing"

	"depot/api"
	"depot/shell"
)

func TestStat(t *testing.T) { // P25.9: paths, their sizes, and the texts of their files: different ones, their bytes, the bytes of all
	s := shell.New()
	hold(t, s, "stat", "ok 0 0 0 0 0")
	a := fileOf(t, s, "a", "hello")
	hold(t, s, "stat", "ok 1 288 1 5 5")
	do(t, s, "dir d", "exec d/y hello", "link d/z hello", "file e %")
	b := told(t, s, "add b")
	size := len(s.Log())
	hold(t, s, "stat", fmt.Sprintf("ok 2 %d 2 5 15", 288+sizeOf(t, s, b)))
	if len(s.Log()) != size {
		t.Error("stat changed the log")
	}
	do(t, s, "new", "file x other")
	c := told(t, s, "add c")
	hold(t, s, "stat", fmt.Sprintf("ok 3 %d 3 10 20", 288+sizeOf(t, s, b)+288))
	do(t, s, "drop "+a, "drop "+b)
	hold(t, s, "stat", "ok 1 288 1 5 5")
	do(t, s, "drop "+c, "new")
	p := told(t, s, "add empty")
	hold(t, s, "stat", "ok 1 96 0 0 0")
	do(t, s, "file % %", "add f "+p)
	hold(t, s, "stat", "ok 2 208 1 0 0")
}

// sizeOf: the bytes of a path's archive: what a sweep of it alone would gain.
func sizeOf(t *testing.T, s *shell.Session, path string) int {
	next, _, _ := shell.Resume(s.Log())
	for _, other := range ask(next, "paths") {
		if other != path {
			ask(next, "drop "+other)
		}
	}
	size := 0
	if _, err := fmt.Sscan(told(t, next, "collect 1"), &size); err != nil {
		t.Fatal(err)
	}
	return size
}

func TestSaveAndCompact(t *testing.T) { // P25.9: the bytes of the log
	s := shell.New()
	a := fileOf(t, s, "a", "1")
	b := fileOf(t, s, "b", "2", a)
	do(t, s, "root main "+b)
	full := s.Log()
	hold(t, s, "save", "ok "+number(len(full)))
	hold(t, s, "compact", "ok "+number(len(full)))
	if s.Log() != full {
		t.Error("compact changed a log that has nothing to lose")
	}
	c := fileOf(t, s, "c", "3")
	do(t, s, "root main "+a, "root main "+b, "root x "+c, "unroot x", "drop "+c)
	hold(t, s, "save", "ok "+number(len(s.Log())))
	if len(s.Log()) <= len(full) {
		t.Error("the log hasn't grown")
	}
	before := s.Log()
	do(t, s, "new", "file y z", "set "+a, "export "+a)
	if s.Log() != before {
		t.Error("what isn't of the depot is in the log")
	}
	hold(t, s, "compact", "ok "+number(len(full)))
	if s.Log() != full {
		t.Error("the log behind compact isn't that of its paths and roots")
	}
	hold(t, s, "save", "ok "+number(len(full)))
	hold(t, s, "draft", "d %", "f y 1", "ok 2")
	hold(t, s, "gens", "1 * "+a, "ok 1")
	hold(t, s, "import", "ok 0")
}

// busy: a session of which nothing is new, with the lengths of its log at each whole record.
func busy(t *testing.T) (s *shell.Session, root string, ends []int) {
	s = shell.New()
	ends = []int{0}
	a := fileOf(t, s, "a", "1")
	ends = append(ends, len(s.Log()))
	root = fileOf(t, s, "b", "2", a)
	ends = append(ends, len(s.Log()))
	do(t, s, "root main "+root)
	ends = append(ends, len(s.Log()))
	do(t, s, "set "+a, "export "+a, say("recipe", lowText), "list "+a, "file more x")
	return s, root, ends
}

func TestCrash(t *testing.T) { // P25.9: at each byte of the log
	_, _, ends := busy(t)
	whole := ends[len(ends)-1]
	for size := 0; size <= whole; size++ {
		if size%5 != 0 && size < whole-12 { // a few in between are enough
			continue
		}
		s, _, _ := busy(t)
		text := s.Log()
		kept := 0
		for _, end := range ends {
			if end <= size {
				kept = end
			}
		}
		hold(t, s, "crash "+number(size), "ok "+number(kept))
		if s.Log() != text[:kept] {
			t.Fatalf("the log behind crash %d: %d bytes, not %d", size, len(s.Log()), kept)
		}
		fresh, _, _ := shell.Resume(text[:size])
		if got, want := state(s), state(fresh); got != want {
			t.Fatalf("behind crash %d: %q, not %q", size, got, want)
		}
		hold(t, s, "draft", "d %", "ok 1")
		hold(t, s, "gens", "ok 0")
		hold(t, s, "import", "error 4")
		hold(t, s, "build low", "error 3 low -1")
	}
}

func TestCrashAtTheEnds(t *testing.T) { // P25.9: the edges of NUMBER
	s, root, ends := busy(t)
	whole := ends[len(ends)-1]
	refuse(t, s, "crash "+number(whole+1), api.ErrRange)
	hold(t, s, "import", "ok 0") // the stream is still there
	hold(t, s, "crash "+number(whole), "ok "+number(whole))
	hold(t, s, "roots", "main "+root, "ok 1")
	hold(t, s, "crash 0", "ok 0")
	refuse(t, s, "crash 1", api.ErrRange)
	hold(t, s, "paths", "ok 0")
	hold(t, s, "crash 0", "ok 0")
}

func TestCrashForgetsUses(t *testing.T) { // P25.9: everything beside the depot is new
	s, first, second := pairOf(t)
	do(t, s, "list "+first)
	size := told(t, s, "save")
	hold(t, s, "crash "+size, "ok "+size)
	hold(t, s, "collect 1", first, "ok 288")
	hold(t, s, "paths", second, "ok 1")
}

func TestGoOnBehindCrash(t *testing.T) { // P25.9: the session goes on as one of Resume does
	s, _, ends := busy(t)
	text := s.Log()
	do(t, s, "crash "+number(ends[1]+8))
	next, _, _ := shell.Resume(text[:ends[1]+8])
	for _, line := range []string{"file q r", "add more", "root r x", "set x", "back", "save", "compact", "paths", say("recipe", lowText), "build low", "export", "import", "stat", "crash 9", "stat"} {
		hold(t, s, line, ask(next, line)...)
	}
	if s.Log() != next.Log() {
		t.Error("the logs differ")
	}
}
