package shell_test

import (
	"fmt"
	"math/rand"
	"slices"
	"strings"
	"testing"

	"depot/api"
	"depot/shell"
)

func TestEscape(t *testing.T) { // P25.1
	rows := map[string]string{
		"":                "%",
		"a":               "a",
		"%":               "%25",
		" ":               "%20",
		"a b%\xff":        "a%20b%25%ff",
		"\x00\n\t\x1f":    "%00%0a%09%1f",
		"!~":              "!~",
		"\x7f\x80":        "%7f%80",
		"%20":             "%2520",
		"é":               "%c3%a9",
		"a/b/../\"\\":     "a/b/../\"\\",
		"/depot/store/x?": "/depot/store/x?",
	}
	for text, want := range rows {
		if got := shell.Escape(text); got != want {
			t.Errorf("Escape(%q) = %q, not %q", text, got, want)
		}
	}
	for b := range 256 {
		text := string([]byte{byte(b)})
		want := text
		if b < 33 || b > 126 || b == '%' {
			want = fmt.Sprintf("%%%02x", b)
		}
		if got := shell.Escape(text); got != want {
			t.Errorf("Escape(%q) = %q, not %q", text, got, want)
		}
		if got := shell.Escape("a" + text + "b"); got != "a"+want+"b" {
			t.Errorf("Escape within: %q, not %q", got, want)
		}
	}
}

func TestWords(t *testing.T) { // P25.1
	rows := []struct {
		line string
		want []string
	}{
		{"a", []string{"a"}},
		{"a b", []string{"a", "b"}},
		{"%", []string{""}},
		{"% %", []string{"", ""}},
		{"a% ", nil},
		{"a%20b %", []string{"a b", ""}},
		{"%00%0a%ff", []string{"\x00\n\xff"}},
		{"%2520", []string{"%20"}},
		{"%25", []string{"%"}},
		{"%6e%65w", []string{"new"}},
		{"%41%4a", []string{"AJ"}},
		{"a\tb\nc\x00\xff é", []string{"a\tb\nc\x00\xff", "é"}},
		{"%20", []string{" "}},
		{"%202", []string{" 2"}},
	}
	for _, row := range rows {
		got, code := shell.Words(row.line)
		if row.want == nil {
			holdNoWords(t, row.line, api.ErrArgs)
		} else if !slices.Equal(got, row.want) || code != api.OK {
			t.Errorf("Words(%q) = %q, %d, not %q", row.line, got, code, row.want)
		}
	}
}

// holdNoWords: the line is refused with that error, without words.
func holdNoWords(t *testing.T, line string, want api.Errno) {
	t.Helper()
	if got, code := shell.Words(line); len(got) != 0 || code != want {
		t.Errorf("Words(%.100q) = %q, %d, not %d", line, got, code, want)
	}
}

func TestNoWords(t *testing.T) { // P25.1: an empty piece, a % without two digits behind it
	for _, line := range []string{
		"", " ", "a ", " a", "a  b", "% ", " %",
		"%%", "%2", "%g0", "%0g", "a%", "a%2", "%20%", "%2 0", "%AF", "%aF", "%Af", "%+1", "%-1", "% 20%", "%x1", "%2\x00", "%\xff\xff", "a %4 b", "%%20",
	} {
		holdNoWords(t, line, api.ErrArgs)
	}
	for b := range 256 {
		if c := byte(b); !strings.Contains("0123456789abcdef", string(rune(c))) && c != ' ' {
			holdNoWords(t, "%"+string([]byte{c})+"0", api.ErrArgs)
			holdNoWords(t, "%0"+string([]byte{c}), api.ErrArgs)
		}
	}
}

func TestWordsLong(t *testing.T) { // P25.1: MaxLine counts the line's bytes, ahead of all else
	for _, piece := range []string{"a", "%20", "a ", "%", "\xff"} {
		long := strings.Repeat(piece, 4097)[:4097]
		holdNoWords(t, long, api.ErrLong)
		holdNoWords(t, long+long, api.ErrLong)
	}
	line := strings.Repeat("a", 4096)
	if got, code := shell.Words(line); !slices.Equal(got, []string{line}) || code != api.OK {
		t.Errorf("Words of 4096 bytes: %d words, %d", len(got), code)
	}
	line = strings.Repeat("% ", 2047) + "%0"
	holdNoWords(t, line, api.ErrArgs)
	line += "0"
	if got, code := shell.Words(line[1:]); code != api.ErrArgs || got != nil {
		t.Errorf("Words with an empty piece ahead: %d words, %d", len(got), code)
	}
	line = line[2:]
	if got, code := shell.Words(line); len(got) != 2047 || code != api.OK || got[0] != "" || got[2046] != "\x00" {
		t.Errorf("Words of %d bytes: %d words, %d", len(line), len(got), code)
	}
}

func TestWordsOfEscaped(t *testing.T) { // P25.1: Words reads what Escape writes
	const odd = "% 2af\x00\xff~!\n"
	r := rand.New(rand.NewSource(1))
	for range 3000 {
		var want, escaped []string
		for range 1 + r.Intn(5) {
			text := make([]byte, r.Intn(12))
			for i := range text {
				text[i] = odd[r.Intn(len(odd))]
				if r.Intn(3) == 0 {
					text[i] = byte(r.Intn(256))
				}
			}
			want = append(want, string(text))
			escaped = append(escaped, shell.Escape(string(text)))
		}
		line := strings.Join(escaped, " ")
		got, code := shell.Words(line)
		if !slices.Equal(got, want) || code != api.OK {
			t.Fatalf("Words(%q) = %q, %d, not %q", line, got, code, want)
		}
		clear(got[:cap(got)])
		if again, _ := shell.Words(line); !slices.Equal(again, want) {
			t.Fatalf("Words(%q) = %q the second time", line, again)
		}
	}
}
