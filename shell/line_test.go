package shell_test

import (
	"fmt"
	"strings"
	"testing"

	"depot/api"
	"depot/log"
	"depot/shell"
)

// arities: how many words stand behind each command, at least and at most; -1: any number.
func arities() map[string][2]int {
	return map[string][2]int{
		"new": {0, 0}, "file": {2, 2}, "exec": {2, 2}, "link": {2, 2}, "dir": {1, 1}, "cut": {1, 1}, "draft": {0, 0},
		"add": {1, -1}, "load": {1, 1}, "list": {1, 1}, "cat": {2, 2}, "drop": {1, 1}, "paths": {0, 0}, "refs": {1, 1}, "users": {1, 1}, "closure": {0, -1}, "order": {0, -1},
		"root": {2, 2}, "unroot": {1, 1}, "roots": {0, 0}, "collect": {1, 1},
		"recipe": {1, 1}, "build": {1, 1},
		"export": {0, -1}, "import": {0, 0},
		"union": {2, -1}, "set": {1, 1}, "back": {0, 0}, "gens": {0, 0},
		"stat": {0, 0}, "save": {0, 0}, "compact": {0, 0}, "crash": {1, 1},
	}
}

func TestNew(t *testing.T) { // P25.2: everything is new at the beginning
	s := shell.New()
	if s.Log() != "" {
		t.Errorf("Log = %q", s.Log())
	}
	hold(t, s, "draft", "d %", "ok 1")
	hold(t, s, "paths", "ok 0")
	hold(t, s, "roots", "ok 0")
	hold(t, s, "gens", "ok 0")
	hold(t, s, "stat", "ok 0 0 0 0 0")
	hold(t, s, "save", "ok 0")
	hold(t, s, "import", "error 4")
	hold(t, s, "build x", "error 3 x -1")
	hold(t, s, "back", "error 232")
	hold(t, s, "collect 1", "ok 0")
	hold(t, s, "compact", "ok 0")
	do(t, s, "file x hello", "add one")
	hold(t, shell.New(), "paths", "ok 0")
	hold(t, shell.New(), "draft", "d %", "ok 1")
}

func TestSessionsApart(t *testing.T) { // P25.2: each session goes on by itself
	a, b := shell.New(), shell.New()
	p := fileOf(t, a, "one", "hello")
	do(t, a, "root main "+p, "set "+p, "export "+p, `recipe Recipe("r",[],[])`)
	if got := state(b); got != state(shell.New()) {
		t.Errorf("the other session: %q", got)
	}
	hold(t, b, "import", "error 4")
	hold(t, b, "build r", "error 3 r -1")
}

func TestOrderOfErrors(t *testing.T) { // P25.2: Words's error, ErrCommand, ErrArgs, the command's own
	s := shell.New()
	long := strings.Repeat("x", 4090)
	for _, row := range []struct {
		line string
		code api.Errno
	}{
		{"", api.ErrArgs},
		{" ", api.ErrArgs},
		{"new ", api.ErrArgs},
		{" new", api.ErrArgs},
		{"what %", api.ErrCommand},
		{"what %2", api.ErrArgs},
		{"what  x", api.ErrArgs},
		{"what " + long + "xx", api.ErrLong},
		{"what " + long + "x", api.ErrCommand},
		{"%", api.ErrCommand},
		{"% x y z", api.ErrCommand},
		{"New", api.ErrCommand},
		{"NEW", api.ErrCommand},
		{"newx", api.ErrCommand},
		{"ne", api.ErrCommand},
		{"new\n", api.ErrCommand},
		{"new\tx", api.ErrCommand},
		{"new%20", api.ErrCommand},
		{"ok", api.ErrCommand},
		{"error 3", api.ErrCommand},
		{"new x", api.ErrArgs},
		{"new %", api.ErrArgs},
		{"file ..", api.ErrArgs},
		{"file .. x y", api.ErrArgs},
		{"file .. x", api.ErrDots},
		{"crash 007 1", api.ErrArgs},
		{"crash 1", api.ErrRange},
		{"cat x", api.ErrArgs},
		{"cat x y", api.ErrMissing},
	} {
		refuse(t, s, row.line, row.code)
	}
	hold(t, s, "%6e%65%77", "ok")
	hold(t, s, "dr%61ft", "d %", "ok 1")
}

func TestNumbersOfWords(t *testing.T) { // P25.2: ErrArgs, if there are more or fewer words than stand in the chapter
	for name, arity := range arities() {
		for n := range 8 {
			s := shell.New()
			line := name + strings.Repeat(" x", n)
			got := ask(s, line)
			wrong := n < arity[0] || arity[1] >= 0 && n > arity[1]
			odd := name == "union" // its second word is no priority
			number := name == "collect" || name == "crash"
			if refused := got[0] == "error 251"; refused != (wrong || odd || number) || len(got) != 1 && refused {
				t.Errorf("%q: %q", line, got)
			}
			if got := ask(s, name+strings.Repeat(" 0", n)); !odd && (got[0] == "error 251") != wrong {
				t.Errorf("%s with %d words: %q", name, n, got)
			}
		}
	}
}

func TestManyWords(t *testing.T) { // P25.4, P25.7: any number of words
	s := shell.New()
	p := fileOf(t, s, "one", "hello")
	count := (4096 - len("closure")) / (len(p) + 1)
	words := strings.Repeat(" "+p, count)
	hold(t, s, "closure"+words, p, "ok 1")
	hold(t, s, "order"+words, p, "ok 1")
	hold(t, s, "export"+words, "ok "+told(t, s, "export "+p))
	hold(t, s, "add two"+strings.Repeat(" x", 2000), "error 171")
	hold(t, s, "closure"+strings.Repeat(" x", 2044), "error 3")
	hold(t, s, "closure"+strings.Repeat(" x", 2045), "error 6")
	hold(t, s, "new"+strings.Repeat(" x", 2046), "error 251")
}

func TestResume(t *testing.T) { // P25.2
	s := shell.New()
	p := fileOf(t, s, "one", "hello")
	first := len(s.Log())
	do(t, s, "root main "+p)
	text := s.Log()
	for size := range len(text) + 1 {
		next, kept, fault := shell.Resume(text[:size])
		want := 0
		switch {
		case size == len(text):
			want = size
		case size >= first:
			want = first
		}
		if next == nil || kept != want || fault != (api.Fault{}) {
			t.Fatalf("Resume of %d bytes: %v, %d, %v, not %d", size, next, kept, fault, want)
		}
		if next.Log() != text[:want] {
			t.Fatalf("Log behind Resume of %d bytes: %q", size, next.Log())
		}
	}
	next, _, _ := shell.Resume(text)
	hold(t, next, "paths", p, "ok 1")
	hold(t, next, "roots", "main "+p, "ok 1")
	hold(t, next, "draft", "d %", "ok 1")
	hold(t, next, "gens", "ok 0")
	hold(t, next, "import", "error 4")
	hold(t, next, "cat "+p+" x", "ok hello")
}

func TestResumeFault(t *testing.T) { // P25.2: log.Open's fault, no session and 0
	s := shell.New()
	fileOf(t, s, "one", "hello")
	text := s.Log()
	for _, wrong := range []string{
		"\x04\x00\x00\x00\x00\x00\x00\x00",
		text + text,
		text + "\x01\x00\x00\x00\x00\x00\x00\x00",
		strings.Replace(text, "import", "improt", 1),
		strings.Replace(text, "hello", "hallo", 1),
		strings.Repeat("\xff", 8),
	} {
		_, _, want := log.Open(wrong)
		if want.Code != api.ErrRecord {
			t.Fatalf("log.Open(%q): %v", wrong, want)
		}
		if got, kept, fault := shell.Resume(wrong); got != nil || kept != 0 || fault != want {
			t.Errorf("Resume(%q) = %v, %d, %v, not %v", wrong, got, kept, fault, want)
		}
	}
}

func TestRun(t *testing.T) { // P25.2: the pieces between the bytes 10, each line of an answer with a byte 10 behind it
	for text, want := range map[string]string{
		"":                                   "error 251\n",
		"\n":                                 "error 251\nerror 251\n",
		"new":                                "ok\n",
		"new\n":                              "ok\nerror 251\n",
		"\nnew":                              "error 251\nok\n",
		"new\r\nnew":                         "error 250\nok\n",
		"set x\nsave":                        "error 3\nok 0\n",
		"file x hello\ndraft":                "ok\nd %\nf x 5\nok 2\n",
		"file x a%0ab\ndraft\nfile x a\x00b": "ok\nd %\nf x 3\nok 2\nok\n",
		"file x a\ncrash 0\ndraft":           "ok\nok 0\nd %\nok 1\n",
	} {
		for range 2 { // each time a new session
			if got := shell.Run(text); got != want {
				t.Errorf("Run(%q) = %q, not %q", text, got, want)
			}
		}
	}
}

func TestExampleOfTheWhole(t *testing.T) { // the document's tenth example
	s := shell.New()
	hold(t, s, "file x hello", "ok")
	p := told(t, s, "add one")
	if !strings.HasPrefix(p, "/depot/store/") || !strings.HasSuffix(p, "-one") || len(p) != len("/depot/store/")+32+len("-one") {
		t.Errorf("add one: %q", p)
	}
	hold(t, s, fmt.Sprintf("cat %s x", p), "ok hello")
	hold(t, s, "crash 0", "ok 0")
	hold(t, s, "paths", "ok 0")
}
