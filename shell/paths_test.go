package shell_test

import (
	"slices"
	"strings"
	"testing"

	"depot/api"
	"depot/shell"
)

func TestAdd(t *testing.T) { // P25.4: the depot's Add, with the references in the order of their bytes
	s := shell.New()
	a := fileOf(t, s, "a", "1")
	b := fileOf(t, s, "b", "2")
	if a > b {
		a, b = b, a
	}
	c := fileOf(t, s, "c", "3", a, b)
	if other := fileOf(t, s, "c", "3", b, a); other != c {
		t.Errorf("add with the references the other way: %q, not %q", other, c)
	}
	if other := fileOf(t, s, "c", "3"); other == c {
		t.Errorf("add without references: the same path %q", other)
	} else {
		do(t, s, "drop "+other)
	}
	hold(t, s, "refs "+c, a, b, "ok 2")
	hold(t, s, "paths", append(slices.Sorted(slices.Values([]string{a, b, c})), "ok 3")...)
	refuse(t, s, "add c "+a+" "+a, api.ErrRefs)
	refuse(t, s, "add c "+a+" x", api.ErrRefs)
	refuse(t, s, "add c %", api.ErrRefs)
	refuse(t, s, "add c "+a+" "+nowhere, api.ErrMissing)
	for _, label := range []string{"%", ".x", "a%20b", "a%2fb", "%25", strings.Repeat("l", 212)} {
		refuse(t, s, "add "+label, api.ErrName)
		refuse(t, s, "add "+label+" x", api.ErrName)
	}
	label := strings.Repeat("l", 211)
	if p := told(t, s, "add "+label); !strings.HasSuffix(p, "-"+label) {
		t.Errorf("add of the longest label: %q", p)
	}
}

func TestAddAgain(t *testing.T) { // P25.4: the same path, and no record
	s := shell.New()
	p := fileOf(t, s, "a", "1")
	text := s.Log()
	hold(t, s, "add a", "ok "+p)
	if s.Log() != text {
		t.Errorf("the log grew to %d bytes", len(s.Log()))
	}
	hold(t, s, "draft", "d %", "f x 1", "ok 2")
}

func TestLoadListCat(t *testing.T) { // P25.4
	s := shell.New()
	do(t, s, "dir d", "exec d/run go", "link l d", "file % %", "dir %", "dir d", "exec d/run g%20o", "link l d", "file e %")
	p := told(t, s, "add one")
	rows := []string{"d %", "d d", "x d/run 3", "f e 0", "l l d", "ok 5"}
	do(t, s, "new")
	hold(t, s, "list "+p, rows...)
	hold(t, s, "draft", "d %", "ok 1")
	hold(t, s, "cat "+p+" d/run", "ok g%20o")
	hold(t, s, "cat "+p+" e", "ok %")
	hold(t, s, "draft", "d %", "ok 1")
	hold(t, s, "load "+p, "ok")
	hold(t, s, "draft", rows...)
	do(t, s, "cut d", "file e more")
	hold(t, s, "list "+p, rows...) // what is kept is as it was
	for path, code := range map[string]api.Errno{
		"none":   api.ErrMissing,
		"d/none": api.ErrMissing,
		"d":      api.ErrNotFile,
		"%":      api.ErrNotFile,
		"l":      api.ErrNotFile,
		"e/x":    api.ErrNotDir,
		"l/run":  api.ErrNotDir,
		"..":     api.ErrDots,
		"d//run": api.ErrEmpty,
		"%00":    api.ErrByte,
	} {
		refuse(t, s, "cat "+p+" "+path, code)
	}
	for _, wrong := range []string{nowhere, "%", "x", p + "x", p[:len(p)-1], p + "%00"} {
		for _, line := range []string{"load %s", "list %s", "cat %s e", "cat %s ..", "drop %s", "refs %s", "users %s", "closure %s", "order %s", "set %s", "export %s", "root r %s", "union %s 1"} {
			refuse(t, s, strings.ReplaceAll(line, "%s", wrong), api.ErrMissing)
		}
	}
}

func TestDropAndUsers(t *testing.T) { // P25.4: drop, paths, refs, users, closure, order
	s := shell.New()
	low := fileOf(t, s, "low", "1")
	mid := fileOf(t, s, "mid", "2", low)
	high := fileOf(t, s, "high", "3", mid)
	other := fileOf(t, s, "other", "4", low)
	sorted := func(paths ...string) []string {
		slices.Sort(paths)
		return append(paths, "ok "+number(len(paths)))
	}
	hold(t, s, "paths", sorted(low, mid, high, other)...)
	hold(t, s, "refs "+low, "ok 0")
	hold(t, s, "refs "+high, mid, "ok 1")
	hold(t, s, "users "+low, sorted(mid, other)...)
	hold(t, s, "users "+high, "ok 0")
	hold(t, s, "closure", "ok 0")
	hold(t, s, "order", "ok 0")
	hold(t, s, "closure "+high, sorted(low, mid, high)...)
	hold(t, s, "closure "+other+" "+mid+" "+other, sorted(low, mid, other)...)
	hold(t, s, "order "+high, low, mid, high, "ok 3")
	refuse(t, s, "closure "+high+" "+nowhere, api.ErrMissing)
	refuse(t, s, "order "+nowhere+" "+high, api.ErrMissing)
	refuse(t, s, "drop "+low, api.ErrInUse)
	refuse(t, s, "drop "+mid, api.ErrInUse)
	hold(t, s, "drop "+high, "ok")
	refuse(t, s, "drop "+high, api.ErrMissing)
	hold(t, s, "drop "+mid, "ok")
	hold(t, s, "paths", sorted(low, other)...)
	hold(t, s, "users "+low, other, "ok 1")
}

func TestRoots(t *testing.T) { // P25.5
	s := shell.New()
	a := fileOf(t, s, "a", "1")
	b := fileOf(t, s, "b", "2")
	hold(t, s, "root z "+a, "ok")
	hold(t, s, "root main "+a, "ok")
	hold(t, s, "roots", "main "+a, "z "+a, "ok 2")
	hold(t, s, "root z "+b, "ok")
	text := s.Log()
	hold(t, s, "root z "+b, "ok") // which it stands for already
	if s.Log() != text {
		t.Error("a record for a root that stood for its path")
	}
	hold(t, s, "roots", "main "+a, "z "+b, "ok 2")
	refuse(t, s, "drop "+a, api.ErrInUse)
	refuse(t, s, "root . "+a, api.ErrName)
	refuse(t, s, "root a%20b x", api.ErrName)
	refuse(t, s, "root % "+a, api.ErrName)
	refuse(t, s, "root ok "+nowhere, api.ErrMissing)
	refuse(t, s, "unroot none", api.ErrMissing)
	refuse(t, s, "unroot %", api.ErrMissing)
	hold(t, s, "unroot main", "ok")
	refuse(t, s, "unroot main", api.ErrMissing)
	hold(t, s, "drop "+a, "ok")
	hold(t, s, "roots", "z "+b, "ok 1")
}

func TestCollect(t *testing.T) { // P25.5: what no root reaches goes, no more than is wanted
	s := shell.New()
	low := fileOf(t, s, "low", "1")
	high := fileOf(t, s, "high", "2", low)
	kept := fileOf(t, s, "kept", "3")
	do(t, s, "root main "+kept)
	hold(t, s, "collect 0", "ok 0")
	hold(t, s, "collect 1", high, "ok 288")
	hold(t, s, "collect 999999999", low, "ok 288")
	hold(t, s, "collect 999999999", "ok 0")
	hold(t, s, "paths", kept, "ok 1")
	do(t, s, "unroot main")
	hold(t, s, "collect 288", kept, "ok 288")
	hold(t, s, "paths", "ok 0")
}

func TestCollectTwo(t *testing.T) { // P25.5: the bytes that are wanted
	for want, count := range map[string]int{"0": 0, "1": 1, "288": 1, "289": 2, "576": 2, "577": 3, "999999999": 3} {
		s := shell.New()
		paths := []string{fileOf(t, s, "a", "1"), fileOf(t, s, "b", "2"), fileOf(t, s, "c", "3")}
		slices.Sort(paths)
		hold(t, s, "collect "+want, append(paths[:count:count], "ok "+number(288*count))...)
	}
}

func TestNumbers(t *testing.T) { // a NUMBER is one to nine digits, without noughts ahead
	s := shell.New()
	p := fileOf(t, s, "a", "1")
	do(t, s, "root main "+p)
	for _, word := range []string{"%", "00", "01", "007", "0000000000", "1000000000", "9999999999", "12345678901234567890123", "-1", "-0", "+1", "1.0", "1e3", "0x1", "a", "1a", "a1", "1%20", "%201", "1_0", "%d9%a1", "1%00", "/", ":", "1%0a"} {
		refuse(t, s, "collect "+word, api.ErrArgs)
		refuse(t, s, "crash "+word, api.ErrArgs)
	}
	for _, word := range []string{"0", "1", "9", "10", "100", "123456789", "999999999", "%30", "%31%30"} {
		hold(t, s, "collect "+word, "ok 0")
	}
	for _, word := range []string{"123456789", "999999999", number(len(s.Log()) + 1)} {
		refuse(t, s, "crash "+word, api.ErrRange)
	}
}

// pairOf: a session with two paths of the same size, the lesser first, so that of equal uses it goes first.
func pairOf(t *testing.T) (s *shell.Session, first, second string) {
	s = shell.New()
	first, second = fileOf(t, s, "a", "1"), fileOf(t, s, "b", "2")
	if first > second {
		first, second = second, first
	}
	return s, first, second
}

func TestUses(t *testing.T) { // P25.4: load, list and cat use a path once more; nothing else does
	for line, counts := range map[string]bool{
		"load %s":     true,
		"list %s":     true,
		"cat %s x":    true,
		"cat %s none": true, // refused behind that
		"cat %s ..":   true,
		"cat %s %":    true,
		"refs %s":     false,
		"users %s":    false,
		"closure %s":  false,
		"order %s":    false,
		"export %s":   false,
		"set %s":      false,
		"union %s 1":  false,
		"draft":       false,
		"stat":        false,
		"cat %s":      false,
		"load %s %s":  false,
		"add x %s %s": false,
		"compact":     false,
		"paths":       false,
		"list":        false,
		"cat %sx x":   false,
	} {
		s, first, second := pairOf(t)
		ask(s, strings.ReplaceAll(line, "%s", first))
		if counts {
			hold(t, s, "collect 1", second, "ok 288")
		} else {
			hold(t, s, "collect 1", first, "ok 288")
		}
	}
}

func TestUsesAreCounted(t *testing.T) { // P25.4, P25.5: how often, not whether
	s, first, second := pairOf(t)
	do(t, s, "load "+first, "list "+first, "cat "+first+" x", "load "+second, "list "+second)
	hold(t, s, "collect 1", second, "ok 288")
	s, first, second = pairOf(t)
	do(t, s, "load "+first, "list "+first, "cat "+first+" x", "load "+second, "list "+second)
	refuse(t, s, "cat "+second+" none", api.ErrMissing)
	hold(t, s, "collect 1", first, "ok 288")
	s, first, second = pairOf(t)
	do(t, s, "list "+first, "list "+first, "list "+second)
	hold(t, s, "collect 1", second, "ok 288")
}

func TestUsesStay(t *testing.T) { // P25.4: a path's uses outlast that it goes and comes again; a missing path isn't used
	s, first, second := pairOf(t)
	do(t, s, "load "+first, "drop "+first)
	refuse(t, s, "list "+first, api.ErrMissing)
	do(t, s, "list "+second)
	label := first[len(first)-1:]
	hold(t, s, "add "+label, "ok "+first)
	hold(t, s, "collect 1", first, "ok 288")
	hold(t, s, "add "+label, "ok "+first)
	do(t, s, "list "+first)
	hold(t, s, "collect 1", second, "ok 288")
}
