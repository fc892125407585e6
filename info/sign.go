package info

import (
	"strings"

	"depot/api"
	"depot/radix"
)

// MaxSigner is the most bytes of a signer's name.
const MaxSigner = 32

const signMark = ":" // between the signer and the sum; no signer's name has it

// CheckSigner: may s be a signer's name?
func CheckSigner(s string) api.Errno {
	if s == "" || len(s) > MaxSigner {
		return api.ErrSign
	}
	for i := range len(s) {
		if !inSigner(s[i]) {
			return api.ErrSign
		}
	}
	return api.OK
}

// inSigner: may a signer's name have c?
func inSigner(c byte) bool {
	return 'a' <= c && c <= 'z' || '0' <= c && c <= '9' || c == '.' || c == '-'
}

// CheckSign: may s be a signature?
func CheckSign(s string) api.Errno {
	_, _, code := SplitSign(s)
	return code
}

// SplitSign: the signer and the sum of a signature.
func SplitSign(s string) (string, api.Digest, api.Errno) {
	signer, letters, _ := strings.Cut(s, signMark) // without the mark there are no letters
	if code := CheckSigner(signer); code != api.OK {
		return "", api.Digest{}, code
	}
	sum, isDigest := digestOf(letters)
	if !isDigest {
		return "", api.Digest{}, api.ErrSign
	}
	return signer, sum, api.OK
}

// digestOf: the digest for which Base32 writes these letters, and whether there is one.
func digestOf(letters string) (api.Digest, bool) {
	var d api.Digest
	told, code := radix.FromBase32(letters)
	if code != api.OK || len(told) != len(d) {
		return api.Digest{}, false
	}
	copy(d[:], told)
	return d, true
}

// checkSigns: are these signatures, rising?
func checkSigns(signs []string) api.Errno {
	for i, sign := range signs {
		if code := checkNext(signs[:i], sign); code != api.OK {
			return code
		}
	}
	return api.OK
}

// checkNext: may sign stand behind these signatures?
func checkNext(signs []string, sign string) api.Errno {
	if code := CheckSign(sign); code != api.OK {
		return code
	}
	if n := len(signs); n > 0 && sign <= signs[n-1] {
		return api.ErrSign
	}
	return api.OK
}
