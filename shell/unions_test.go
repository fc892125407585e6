package shell_test

import (
	"fmt"
	"strings"
	"testing"

	"depot/api"
	"depot/shell"
)

func TestUnion(t *testing.T) { // P25.8: the lesser priority goes ahead, and the union is the draft
	s := shell.New()
	a := fileOf(t, s, "a", "1")
	do(t, s, "new", "file x 22", "file y 3")
	b := told(t, s, "add b")
	do(t, s, "new")
	text := s.Log()
	hold(t, s, "union "+a+" 2 "+b+" 1.5", "ok")
	hold(t, s, "draft", "d %", "f x 2", "f y 1", "ok 3")
	hold(t, s, "union "+a+" 1 "+b+" 1.5", "ok")
	hold(t, s, "draft", "d %", "f x 1", "f y 1", "ok 3")
	hold(t, s, "union "+a+" 1 "+a+" 1", "ok")
	hold(t, s, "draft", "d %", "f x 1", "ok 2")
	hold(t, s, "union "+a+" 0 "+b+" -1", "ok")
	hold(t, s, "draft", "d %", "f x 2", "f y 1", "ok 3")
	hold(t, s, "union "+b+" 7", "ok")
	hold(t, s, "draft", "d %", "f x 2", "f y 1", "ok 3")
	if s.Log() != text {
		t.Error("the log grew")
	}
	hold(t, s, "add b", "ok "+b)
}

func TestUnionConflict(t *testing.T) { // P25.8: the path by Escape behind the number; no other error tells one
	s := shell.New()
	a := fileOf(t, s, "a", "1")
	b := fileOf(t, s, "b", "2")
	refuse(t, s, "union "+a+" 1 "+b+" 1", api.ErrConflict, "x")
	refuse(t, s, "union "+a+" 0 "+b+" -0", api.ErrConflict, "x")
	refuse(t, s, "union "+a+" 1.50 "+b+" 1.5", api.ErrConflict, "x")
	refuse(t, s, "union "+a+" 3 "+b+" 3.000", api.ErrConflict, "x")
	do(t, s, "dir %", "dir d", "dir d/e%20", "file d/e%20/%25 1")
	c := told(t, s, "add c")
	do(t, s, "cut d/e%20/%25", "link d/e%20/%25 1")
	d := told(t, s, "add d")
	refuse(t, s, "union "+c+" 1 "+d+" 1", api.ErrConflict, "d/e%20/%25")
	do(t, s, "file % x")
	e := told(t, s, "add e")
	refuse(t, s, "union "+c+" 1 "+e+" 1", api.ErrConflict, "%")
	hold(t, s, "union "+c+" 2 "+e+" 1", "ok")
	hold(t, s, "draft", "f % 1", "ok 1")
}

func TestUnionTooBig(t *testing.T) { // P25.8: another error is told without a path
	s := shell.New()
	big := strings.Repeat("x", 4000)
	var paths []string
	for i := range 2 {
		do(t, s, "new")
		for n := range 200 {
			do(t, s, fmt.Sprintf("file %d%03d %s", i, n, big))
		}
		paths = append(paths, told(t, s, fmt.Sprintf("add part%d", i)))
	}
	refuse(t, s, "union "+paths[0]+" 1 "+paths[1]+" 2", api.ErrBig)
	hold(t, s, "union "+paths[0]+" 1 "+paths[0]+" 2", "ok")
}

func TestUnionWords(t *testing.T) { // P25.8: the errors, pair by pair
	s := shell.New()
	p := fileOf(t, s, "a", "1")
	for words, code := range map[string]api.Errno{
		"":                           api.ErrArgs,
		"P":                          api.ErrArgs,
		"P 1 P":                      api.ErrArgs,
		"x 1 P":                      api.ErrArgs, // the odd word goes ahead
		"x 1 x 1 P":                  api.ErrArgs,
		"x 1":                        api.ErrMissing,
		"x x":                        api.ErrArgs,
		"1 P":                        api.ErrArgs,
		"P 1 x 1":                    api.ErrMissing,
		"P 1 P x":                    api.ErrArgs,
		"P 1 x x":                    api.ErrArgs,
		"x 1 P x":                    api.ErrMissing, // the first pair goes ahead
		"P x x 1":                    api.ErrArgs,
		"P 1 " + nowhere + " 1":      api.ErrMissing,
		"P 1 P 2 P 3 P 4 % 5 P 6":    api.ErrMissing,
		"P 1 P 2 P 3 P 4 P 5 P six":  api.ErrArgs,
		"P 1 P 2 P 3 P 4 P 5 P 6 P ": api.ErrArgs,
	} {
		line := strings.TrimSuffix("union "+strings.ReplaceAll(words, "P", p), " ")
		refuse(t, s, line, code)
	}
	hold(t, s, "union"+strings.Repeat(" "+p+" 1", 30), "ok")
}

func TestPriorities(t *testing.T) { // P25.8: which words are priorities
	s := shell.New()
	p := fileOf(t, s, "a", "1")
	for _, word := range []string{
		"0", "1", "9", "10", "123456789", "999999999", "-0", "-1", "-999999999", "0.0", "0.5", "-0.5", "1.5", "1.05", "0.00000000", "0.12345678", "12345678.9", "-12345678.9", "1.23456789", "10.10", "-%31",
	} {
		hold(t, s, "union "+p+" "+word, "ok")
	}
	for _, word := range []string{
		"%", "-", ".", "-.", "--1", "+1", "1-", ".5", "-.5", "1.", "-1.", "1..5", "1.5.5", "00", "01", "007", "00.5", "01.5", "-01", "-00", "1234567890", "0.000000000", "0.123456789", "123456789.1", "12345678.90", "1.234567890", "1e3", "1.e3", "1.5e3", "0x1", "NaN", "Inf", "-Inf", "1,5", "1%20", "%201", "1.-5", "1.+5", "1.%205", "a", "1a", "1.a", "1%00", "1.5%00", "1_000",
	} {
		refuse(t, s, "union "+p+" "+word, api.ErrArgs)
	}
}

func TestPriorityValues(t *testing.T) { // P25.8: all digits as one whole number, divided by 10 as often as there are digits behind the point
	s := shell.New()
	a := fileOf(t, s, "a", "1")
	b := fileOf(t, s, "b", "22")
	for _, row := range []struct {
		less, more string
	}{
		{"1", "2"}, {"-2", "-1"}, {"-1", "1"}, {"-1", "0"}, {"0", "1"}, {"1.5", "2"}, {"0.9", "1"}, {"0.09", "0.1"}, {"0.19", "0.2"}, {"9", "10"}, {"9.9", "10"}, {"1.05", "1.5"},
		{"-1.5", "-1"}, {"-0.1", "-0.01"}, {"0.00000001", "0.00000002"}, {"999999998", "999999999"}, {"1.2345678", "1.23456789"}, {"12.3", "123"}, {"100000000", "999999999"}, {"-999999999", "0.00000001"},
		{"0.2", "0.20000001"}, {"0.29999999", "0.3"},
	} {
		for range 2 {
			hold(t, s, "union "+a+" "+row.less+" "+b+" "+row.more, "ok")
			hold(t, s, "draft", "d %", "f x 1", "ok 2")
			hold(t, s, "union "+a+" "+row.more+" "+b+" "+row.less, "ok")
			hold(t, s, "draft", "d %", "f x 2", "ok 2")
		}
	}
	for _, row := range [][2]string{{"1", "1.0"}, {"0", "-0"}, {"0.0", "-0.00"}, {"12.30", "12.3"}, {"-5", "-5.0"}, {"0.5", "0.500"}} {
		refuse(t, s, "union "+a+" "+row[0]+" "+b+" "+row[1], api.ErrConflict, "x")
	}
}

func TestProfile(t *testing.T) { // P25.8: set, back, gens
	s := shell.New()
	a := fileOf(t, s, "a", "1")
	b := fileOf(t, s, "b", "2")
	refuse(t, s, "back", api.ErrNone)
	refuse(t, s, "set "+nowhere, api.ErrMissing)
	refuse(t, s, "set %", api.ErrMissing)
	hold(t, s, "gens", "ok 0")
	hold(t, s, "set "+a, "ok 1")
	hold(t, s, "gens", "1 * "+a, "ok 1")
	refuse(t, s, "back", api.ErrNone)
	hold(t, s, "set "+b, "ok 2")
	hold(t, s, "set "+b, "ok 3")
	hold(t, s, "gens", "1 "+a, "2 "+b, "3 * "+b, "ok 3")
	hold(t, s, "back", "ok")
	hold(t, s, "gens", "1 "+a, "2 * "+b, "3 "+b, "ok 3")
	hold(t, s, "back", "ok")
	hold(t, s, "gens", "1 * "+a, "2 "+b, "3 "+b, "ok 3")
	refuse(t, s, "back", api.ErrNone)
	hold(t, s, "set "+a, "ok 4")
	hold(t, s, "gens", "1 "+a, "2 "+b, "3 "+b, "4 * "+a, "ok 4")
	hold(t, s, "drop "+b, "ok") // a profile keeps nothing in the depot
	hold(t, s, "back", "ok")
	hold(t, s, "gens", "1 "+a, "2 "+b, "3 * "+b, "4 "+a, "ok 4")
	refuse(t, s, "set "+b, api.ErrMissing)
}
