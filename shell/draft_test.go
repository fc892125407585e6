package shell_test

import (
	"strings"
	"testing"

	"depot/api"
	"depot/shell"
)

func TestDraft(t *testing.T) { // P25.3
	s := shell.New()
	hold(t, s, "file x hello", "ok")
	hold(t, s, "exec run go", "ok")
	hold(t, s, "link l x", "ok")
	hold(t, s, "dir d", "ok")
	hold(t, s, "file d/%20 %", "ok")
	hold(t, s, "exec d/%25 %00%01%02", "ok")
	hold(t, s, "link d/%7f a%20b", "ok")
	hold(t, s, "dir d/%ff", "ok")
	hold(t, s, "draft", "d %", "d d", "f d/%20 0", "x d/%25 3", "l d/%7f a%20b", "d d/%ff", "l l x", "x run 2", "f x 5", "ok 9")
	hold(t, s, "draft", "d %", "d d", "f d/%20 0", "x d/%25 3", "l d/%7f a%20b", "d d/%ff", "l l x", "x run 2", "f x 5", "ok 9")
	hold(t, s, "cut d/%20", "ok")
	hold(t, s, "dir x", "ok")
	hold(t, s, "file l y", "ok")
	hold(t, s, "draft", "d %", "d d", "x d/%25 3", "l d/%7f a%20b", "d d/%ff", "f l 1", "x run 2", "d x", "ok 8")
	hold(t, s, "cut d", "ok")
	hold(t, s, "draft", "d %", "f l 1", "x run 2", "d x", "ok 4")
	hold(t, s, "new", "ok")
	hold(t, s, "draft", "d %", "ok 1")
}

func TestDraftThatIsNoDirectory(t *testing.T) { // P25.3: tree.Put at the empty path
	s := shell.New()
	hold(t, s, "file % hello", "ok")
	hold(t, s, "draft", "f % 5", "ok 1")
	refuse(t, s, "file x y", api.ErrNotDir)
	refuse(t, s, "cut x", api.ErrNotDir)
	hold(t, s, "exec % %", "ok")
	hold(t, s, "draft", "x % 0", "ok 1")
	p := told(t, s, "add run")
	hold(t, s, "list "+p, "x % 0", "ok 1")
	hold(t, s, "cat "+p+" %", "ok %")
	refuse(t, s, "cat "+p+" x", api.ErrNotDir)
	hold(t, s, "link % %25", "ok")
	hold(t, s, "draft", "l % %25", "ok 1")
	hold(t, s, "dir %", "ok")
	hold(t, s, "draft", "d %", "ok 1")
}

func TestDraftRefused(t *testing.T) { // P25.3: the errors of tree.Put and tree.Cut
	s := shell.New()
	do(t, s, "dir d", "file f x", "link l y")
	deep := strings.Repeat("d/", 30) + "d"
	for i := range 30 {
		do(t, s, "dir "+deep[:2*i+1])
	}
	for _, op := range []string{"file %s x", "exec %s x", "link %s x", "dir %s", "cut %s"} {
		for path, code := range map[string]api.Errno{
			"..":                     api.ErrDots,
			".":                      api.ErrDots,
			"a//b":                   api.ErrEmpty,
			"/a":                     api.ErrEmpty,
			"a/":                     api.ErrEmpty,
			"a%00":                   api.ErrByte,
			strings.Repeat("n", 256): api.ErrLong,
			"none/x":                 api.ErrMissing,
			"f/x":                    api.ErrNotDir,
			"l/x":                    api.ErrNotDir,
		} {
			refuse(t, s, strings.ReplaceAll(op, "%s", path), code)
		}
	}
	refuse(t, s, "cut none", api.ErrMissing)
	refuse(t, s, "cut %", api.ErrRoot)
	refuse(t, s, "link a %", api.ErrTarget)
	refuse(t, s, "link a b%00", api.ErrTarget)
	do(t, s, "dir "+deep) // 32 nodes
	refuse(t, s, "dir "+deep+"/d", api.ErrDeep)
	refuse(t, s, "file "+deep+"/d %", api.ErrDeep)
}

func TestDraftTooBig(t *testing.T) { // P25.3: ErrBig, and the draft is as it was
	s := shell.New()
	big := strings.Repeat("x", 4000)
	count := 0
	for ask(s, "file "+number(count)+" "+big)[0] == "ok" {
		count++
	}
	if count < 200 || count > 262 {
		t.Errorf("%d files", count)
	}
	refuse(t, s, "file a "+big, api.ErrBig)
	hold(t, s, "file 0 y", "ok")
	hold(t, s, "file a "+big, "ok")
}
