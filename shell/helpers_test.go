package shell_test

import (
	"fmt"
	"slices"
	"strings"
	"testing"

	"depot/api"
	"depot/shell"
)

// nowhere is a store path that no session has.
const nowhere = "/depot/store/00000000000000000000000000000000-nowhere"

// ask: the answer to a line, which is written over behind the call, so that nothing that is kept can share it.
func ask(s *shell.Session, line string) []string {
	answer := s.Line(line)
	told := slices.Clone(answer)
	clear(answer[:cap(answer)])
	return told
}

// hold: the line is answered by these lines.
func hold(t *testing.T, s *shell.Session, line string, want ...string) {
	t.Helper()
	if got := ask(s, line); !slices.Equal(got, want) {
		t.Errorf("%.200q: %.500q, not %.500q", line, got, want)
	}
}

// do: the lines are taken.
func do(t *testing.T, s *shell.Session, lines ...string) {
	t.Helper()
	for _, line := range lines {
		if got := ask(s, line); !strings.HasPrefix(got[len(got)-1], "ok") {
			t.Fatalf("%.200q: %.500q", line, got)
		}
	}
}

// refuse: the line is refused with that error, and what can be asked of the session is the same ahead of it and behind it.
func refuse(t *testing.T, s *shell.Session, line string, code api.Errno, more ...string) {
	t.Helper()
	before := state(s)
	hold(t, s, line, strings.Join(append([]string{fmt.Sprintf("error %d", code)}, more...), " "))
	if got := state(s); got != before {
		t.Errorf("%.200q was refused, and then %.500q, not %.500q", line, got, before)
	}
}

// state: what a session tells of itself without any change.
func state(s *shell.Session) string {
	all := s.Log()
	for _, line := range []string{"draft", "paths", "roots", "gens", "stat", "save"} {
		all += "\n" + strings.Join(ask(s, line), "\n")
	}
	return all
}

// told: what stands behind ok in the last line of the answer.
func told(t *testing.T, s *shell.Session, line string) string {
	t.Helper()
	got := ask(s, line)
	text, fits := strings.CutPrefix(got[len(got)-1], "ok ")
	if !fits {
		t.Fatalf("%.200q: %.500q", line, got)
	}
	return text
}

// fileOf: the path of a new tree, a directory with the file x of these contents; the draft is that tree.
func fileOf(t *testing.T, s *shell.Session, label, contents string, refs ...string) string {
	t.Helper()
	do(t, s, "new", "file x "+shell.Escape(contents))
	return told(t, s, strings.Join(append([]string{"add", label}, refs...), " "))
}

// number: in digits.
func number(n int) string { return fmt.Sprint(n) }
