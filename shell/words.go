package shell

import (
	"strconv"
	"strings"

	"depot/api"
	"depot/radix"
)

// maxDigits is the most digits of a number in a line.
const maxDigits = 9

// Escape: a text as one word: bytes outside 33 to 126, and the percent sign, as a percent sign and two digits; the empty text is a percent sign alone.
func Escape(s string) string {
	if s == "" {
		return "%"
	}
	var word strings.Builder
	for i := range len(s) {
		if s[i] < 33 || s[i] > 126 || s[i] == '%' {
			word.WriteString("%" + radix.Hex(s[i:i+1]))
		} else {
			word.WriteByte(s[i])
		}
	}
	return word.String()
}

// Words: the words of a line.
func Words(line string) ([]string, api.Errno) {
	if len(line) > api.MaxLine {
		return nil, api.ErrLong
	}
	words := strings.Split(line, " ")
	for i, word := range words {
		text, fits := textOf(word)
		if !fits {
			return nil, api.ErrArgs
		}
		words[i] = text
	}
	return words, api.OK
}

// textOf: the text that a word stands for, if it stands for one.
func textOf(word string) (string, bool) {
	if word == "%" {
		return "", true
	}
	var text strings.Builder
	plain, rest, more := strings.Cut(word, "%")
	for more {
		if len(rest) < 2 {
			return "", false
		}
		escaped, code := radix.FromHex(rest[:2])
		if code != api.OK {
			return "", false
		}
		text.WriteString(plain + escaped)
		plain, rest, more = strings.Cut(rest[2:], "%")
	}
	text.WriteString(plain)
	return text.String(), word != ""
}

// number: what a NUMBER stands for.
func number(word string) (int, api.Errno) {
	if !isNumber(word) {
		return 0, api.ErrArgs
	}
	return valueOf(word), api.OK
}

// isNumber: one to nine digits, without noughts ahead?
func isNumber(word string) bool {
	return areDigits(word) && len(word) <= maxDigits && (word[0] != '0' || word == "0")
}

// areDigits: one digit or more, and nothing else?
func areDigits(word string) bool {
	return word != "" && strings.Trim(word, "0123456789") == ""
}

// valueOf: the whole number of some digits, which are few enough for it.
func valueOf(digits string) int {
	n, _ := strconv.Atoi(digits)
	return n
}

// priority: what a word stands for as a priority, if it is one.
func priority(word string) (float64, bool) {
	bare, negative := strings.CutPrefix(word, "-")
	whole, part, dotted := strings.Cut(bare, ".")
	if !isNumber(whole) || dotted && !areDigits(part) || len(whole)+len(part) > maxDigits {
		return 0, false
	}
	prio := float64(valueOf(whole + part))
	for range len(part) {
		prio /= 10
	}
	if negative {
		prio = -prio
	}
	return prio, true
}
