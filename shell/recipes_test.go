package shell_test

import (
	"crypto/sha256"
	"fmt"
	"slices"
	"strings"
	"testing"

	"depot/api"
	"depot/shell"
)

const (
	lowText  = `Recipe("low",[],[("file","x","hello")])`
	highText = `Recipe("high",["low"],[("path","low","ref"),("copy","low","x","y")])`
)

// say: a line of a command and its words.
func say(command string, words ...string) string {
	for _, word := range words {
		command += " " + shell.Escape(word)
	}
	return command
}

func TestRecipe(t *testing.T) { // P25.6
	s := shell.New()
	hold(t, s, say("recipe", highText), "ok high") // what it uses may come later
	hold(t, s, say("recipe", lowText), "ok low")
	hold(t, s, say("recipe", `Recipe("a.b-c",[],[])`), "ok a.b-c")
	for text, code := range map[string]api.Errno{
		lowText:                                api.ErrTwice,
		highText:                               api.ErrTwice,
		`Recipe("high",[],[])`:                 api.ErrTwice,
		"":                                     api.ErrSyntax,
		"x":                                    api.ErrSyntax,
		lowText + " ":                          api.ErrSyntax,
		lowText[:20]:                           api.ErrSyntax,
		`Recipe("",[],[])`:                     api.ErrName,
		`Recipe("a b",[],[])`:                  api.ErrName,
		`Recipe("new",["b","a"],[])`:           api.ErrRefs,
		`Recipe("new",["."],[])`:               api.ErrRefs,
		`Recipe("new",[],[("file","x")])`:      api.ErrStep,
		`Recipe("new",[],[("what")])`:          api.ErrStep,
		`Recipe("low",[],[("what")])`:          api.ErrStep, // ahead of its name
		`Recipe("low",["."],[("what")])`:       api.ErrRefs,
		`Recipe("new",[],[("link","l","")])`:   api.ErrStep,
		`Recipe("new",[],[("path","a","ab")])`: api.ErrStep,
	} {
		refuse(t, s, say("recipe", text), code)
	}
	hold(t, s, "build new", "error 3 new -1") // no refused text was taken
	hold(t, s, say("recipe", `Recipe("new",[],[])`), "ok new")
	if got := ask(s, "build new"); len(got) != 2 || !strings.HasPrefix(got[0], "new /depot/store/") {
		t.Errorf("build new: %q", got)
	}
}

func TestBuild(t *testing.T) { // P25.6: each recipe behind those that it uses, and all of them in the depot
	s := shell.New()
	do(t, s, say("recipe", highText), say("recipe", lowText), say("recipe", `Recipe("more",[],[])`))
	got := ask(s, "build high")
	if len(got) != 3 || got[2] != "ok 2" {
		t.Fatalf("build high: %q", got)
	}
	low, fits := strings.CutPrefix(got[0], "low ")
	high, fits2 := strings.CutPrefix(got[1], "high ")
	if !fits || !fits2 {
		t.Fatalf("build high: %q", got)
	}
	hold(t, s, "draft", "d %", "ok 1")
	hold(t, s, "refs "+high, low, "ok 1")
	hold(t, s, "list "+low, "d %", "f x 5", "ok 2")
	hold(t, s, "cat "+high+" ref", "ok "+low)
	hold(t, s, "cat "+high+" y", "ok hello")
	hold(t, s, "paths", append(slices.Sorted(slices.Values([]string{low, high})), "ok 2")...)
	text := s.Log()
	hold(t, s, "build high", got...) // what is there is made again, and nothing changes
	hold(t, s, "build low", got[0], "ok 1")
	if s.Log() != text {
		t.Error("the log grew")
	}
	other := shell.New()
	do(t, other, "file x hello")
	hold(t, other, "add low", "ok "+low)
	do(t, other, "new", "file ref "+low, "file y hello")
	hold(t, other, "add high "+low, "ok "+high)
	if other.Log() != text {
		t.Error("the log isn't that of adding the same trees")
	}
	next, kept, fault := shell.Resume(text)
	if next == nil || kept != len(text) || fault.Code != api.OK {
		t.Fatalf("Resume: %d, %v", kept, fault)
	}
	hold(t, next, "refs "+high, low, "ok 1")
}

func TestBuildRefused(t *testing.T) { // P25.6: the code, the name and the step of the Failure; nothing is made
	s := shell.New()
	do(t, s,
		say("recipe", lowText),
		say("recipe", `Recipe("lost",["low","z"],[])`),
		say("recipe", `Recipe("loop",["noose"],[])`),
		say("recipe", `Recipe("noose",["loop"],[])`),
		say("recipe", `Recipe("own",["own"],[])`),
		say("recipe", `Recipe("wrong",["low"],[("dir","d"),("copy","low","none","y")])`),
		say("recipe", `Recipe("first",[],[("cut","x")])`),
		say("recipe", `Recipe("user",["low","wrong"],[])`),
		say("recipe", `Recipe("file",[],[("file","a","1"),("dir","b"),("join","a","b","c")])`),
	)
	refuse(t, s, "build none", api.ErrMissing, "none", "-1")
	refuse(t, s, "build %", api.ErrMissing, "%", "-1")
	refuse(t, s, "build a%20b%25", api.ErrMissing, "a%20b%25", "-1")
	refuse(t, s, "build lost", api.ErrMissing, "z", "-1")
	refuse(t, s, "build loop", api.ErrCycle, "loop", "-1")
	refuse(t, s, "build noose", api.ErrCycle, "loop", "-1")
	refuse(t, s, "build own", api.ErrCycle, "own", "-1")
	refuse(t, s, "build wrong", api.ErrMissing, "wrong", "1")
	refuse(t, s, "build first", api.ErrMissing, "first", "0")
	refuse(t, s, "build user", api.ErrMissing, "wrong", "1")
	refuse(t, s, "build file", api.ErrNotFile, "file", "2")
	hold(t, s, "paths", "ok 0")
	do(t, s, "build low")
	refuse(t, s, "build user", api.ErrMissing, "wrong", "1")
}

func TestBuildByTheSession(t *testing.T) { // P25.6: the recipes' texts stay, the depot's paths don't
	s := shell.New()
	do(t, s, say("recipe", lowText))
	made := ask(s, "build low")
	do(t, s, "drop "+strings.TrimPrefix(made[0], "low "))
	hold(t, s, "paths", "ok 0")
	hold(t, s, "build low", made...)
	do(t, s, "compact")
	hold(t, s, "build low", made...)
}

// number8 and framed: as layer 3 frames them.
func number8(n int) string {
	b := make([]byte, 8)
	for i := range b {
		b[i] = byte(n >> (8 * i))
	}
	return string(b)
}

func framed(words ...string) string {
	all := ""
	for _, w := range words {
		all += number8(len(w)) + w + strings.Repeat("\x00", (8-len(w)%8)%8)
	}
	return all
}

// streamOf: the stream of one path without references, whose tree is a directory with the file x.
func streamOf(path, contents string) string {
	archive := framed("depot-archive-1", "(", "type", "directory", "entry", "(", "name", "x", "node", "(", "type", "regular", "contents", contents, ")", ")", ")")
	digest := fmt.Sprintf("%x", sha256.Sum256([]byte(archive)))
	return number8(1) + archive + framed("depot-closure-1", path) + number8(0) + framed(digest) + number8(0)
}

func TestExport(t *testing.T) { // P25.7: ok, the stream's bytes and its digest
	s := shell.New()
	p := fileOf(t, s, "one", "hello")
	before := state(s)
	for path, stream := range map[string]string{"": number8(0), " " + p: streamOf(p, "hello"), " " + p + " " + p: streamOf(p, "hello")} {
		hold(t, s, "export"+path, fmt.Sprintf("ok %d %x", len(stream), sha256.Sum256([]byte(stream))))
	}
	if got := state(s); got != before {
		t.Errorf("export changed %q to %q", before, got)
	}
	if want := framed(framed("import", streamOf(p, "hello"))); s.Log() != want {
		t.Errorf("Log = %q, not %q", s.Log(), want)
	}
}

func TestImport(t *testing.T) { // P25.7: a line for each new path
	s := shell.New()
	refuse(t, s, "import", api.ErrShort)
	low := fileOf(t, s, "low", "1")
	high := fileOf(t, s, "high", "2", low)
	do(t, s, "export "+high)
	hold(t, s, "import", "ok 0")
	refuse(t, s, "export "+low+" "+nowhere, api.ErrMissing) // the stream is as it was
	do(t, s, "drop "+high)
	hold(t, s, "import", high, "ok 1")
	do(t, s, "drop "+high, "drop "+low)
	hold(t, s, "paths", "ok 0")
	hold(t, s, "import", low, high, "ok 2")
	hold(t, s, "order "+high, low, high, "ok 2")
	hold(t, s, "import", "ok 0")
	do(t, s, "export")
	hold(t, s, "import", "ok 0")
	do(t, s, "export "+low, "drop "+high, "drop "+low)
	hold(t, s, "import", low, "ok 1")
	hold(t, s, "paths", low, "ok 1")
	next, _, fault := shell.Resume(s.Log())
	if fault.Code != api.OK {
		t.Fatalf("Resume: %v", fault)
	}
	hold(t, next, "paths", low, "ok 1")
}

func TestImportTooBig(t *testing.T) { // P25.7: the depot's Import refuses a stream of more than MaxStream bytes
	s := shell.New()
	big := strings.Repeat("x", 4000)
	var paths []string
	for i := range 3 {
		do(t, s, "new")
		for n := range 200 {
			do(t, s, fmt.Sprintf("file %d %s", n, big))
		}
		paths = append(paths, told(t, s, fmt.Sprintf("add part%d", i)))
	}
	do(t, s, "export "+strings.Join(paths[:2], " "))
	hold(t, s, "import", "ok 0")
	do(t, s, "export "+strings.Join(paths, " "))
	refuse(t, s, "import", api.ErrBig)
}
