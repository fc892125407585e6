package shell

import (
	"errors"
	"strconv"
	"strings"

	"depot/api"
	"depot/build"
)

// conflict is a union that there isn't, as the trees differ at a path.
type conflict struct {
	path string
}

func (c *conflict) Error() string { return c.Unwrap().Error() }

func (c *conflict) Unwrap() error { return api.ErrConflict }

// refusal: the line that tells why a line was refused.
func refusal(err error) string {
	var code api.Errno
	errors.As(err, &code)
	words := []string{"error", strconv.Itoa(int(code))}
	switch why := err.(type) {
	case *build.Failure:
		words = append(words, Escape(why.Name), strconv.Itoa(why.Step))
	case *conflict:
		words = append(words, Escape(why.path))
	}
	return strings.Join(words, " ")
}

// ok: the one line of an answer that tells some words.
func ok(words ...string) []string {
	return []string{strings.Join(append([]string{"ok"}, words...), " ")}
}

// okNumber: the lines with ok and a number behind them.
func okNumber(lines []string, n int) []string {
	return append(lines, "ok "+strconv.Itoa(n))
}

// done: the answer to a command that tells nothing.
func done(code api.Errno) ([]string, error) {
	if code != api.OK {
		return nil, code
	}
	return ok(), nil
}

// listed: the answer to a command that tells some paths.
func listed(paths []string, code api.Errno) ([]string, error) {
	if code != api.OK {
		return nil, code
	}
	return okNumber(paths, len(paths)), nil
}
