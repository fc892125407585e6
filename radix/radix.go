// Package radix writes bytes as texts: hexadecimal digits, and thirty-two letters.
package radix

import (
	"strings"

	"depot/api"
)

// MaxFold: the most bytes into which Fold folds.
const MaxFold = 64

const (
	digits  = "0123456789abcdef"
	letters = "0123456789abcdfghijklmnpqrsvwxyz"
)

// Value: the place of a letter among the thirty-two, or -1.
func Value(c byte) int { return strings.IndexByte(letters, c) }

// Hex: two digits a byte.
func Hex(b string) string {
	out := make([]byte, 2*len(b))
	for i := range len(b) {
		out[2*i] = digits[b[i]>>4]
		out[2*i+1] = digits[b[i]&15]
	}
	return string(out)
}

// FromHex: the bytes that Hex wrote so.
func FromHex(s string) (string, api.Errno) {
	if len(s)%2 != 0 {
		return "", api.ErrLength
	}
	out := make([]byte, len(s)/2)
	for i := range len(out) {
		high := strings.IndexByte(digits, s[2*i])
		low := strings.IndexByte(digits, s[2*i+1])
		if high < 0 || low < 0 {
			return "", api.ErrLetter
		}
		out[i] = byte(high<<4 | low)
	}
	return string(out), api.OK
}

// lettersFor: how many letters n bytes take.
func lettersFor(n int) int { return (8*n + 4) / 5 }

// Base32: the letters of the number that the bytes are, the first byte the lowest.
func Base32(b string) string {
	m := lettersFor(len(b))
	out := make([]byte, m)
	for j := range m {
		out[m-1-j] = letters[fiveBits(b, 5*j)]
	}
	return string(out)
}

// fiveBits: the bits of b from bit k on, of which at least the first lies within b.
func fiveBits(b string, k int) int {
	bits := int(b[k/8])
	if k/8+1 < len(b) {
		bits |= int(b[k/8+1]) << 8
	}
	return bits >> (k % 8) & 31
}

// FromBase32: the bytes that Base32 wrote so.
func FromBase32(s string) (string, api.Errno) {
	m := len(s)
	n := 5 * m / 8
	if lettersFor(n) != m {
		return "", api.ErrLength
	}
	for i := range m {
		if Value(s[i]) < 0 {
			return "", api.ErrLetter
		}
	}
	// One byte more than the answer has: the bits from 8n on gather there.
	out := make([]byte, n+1)
	for j := range m {
		bits := Value(s[m-1-j]) << (5 * j % 8)
		out[5*j/8] |= byte(bits)
		out[5*j/8+1] |= byte(bits >> 8)
	}
	if out[n] != 0 {
		return "", api.ErrSpare
	}
	return string(out[:n]), api.OK
}

// Fold: b folded into n bytes by exclusive or.
func Fold(b string, n int) (string, api.Errno) {
	if n < 1 || n > MaxFold {
		return "", api.ErrRange
	}
	var folded [MaxFold]byte
	for i := range len(b) {
		folded[i%n] ^= b[i]
	}
	return string(folded[:n]), api.OK
}
