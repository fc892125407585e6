package info

import (
	"strings"

	"depot/api"
	"depot/spath"
)

const mustHave = 4 // lines: each info has that many, and may have more

// Parse: the info that Print wrote so; a fault is at the number of its line.
func Parse(text string) (Info, api.Fault) {
	var i Info
	for n := 0; n < mustHave || text != ""; n++ {
		line, rest, ended := strings.Cut(text, lineEnd)
		if !ended {
			return Info{}, api.Fault{Code: api.ErrLine, At: n}
		}
		if code := takeLine(&i, n, line); code != api.OK {
			return Info{}, api.Fault{Code: code, At: n}
		}
		text = rest
	}
	return i, api.Fault{}
}

// takeLine takes line n into the info.
func takeLine(i *Info, n int, line string) (code api.Errno) {
	switch n {
	case 0:
		i.Path, code = readPath(line, pathHead)
	case 1:
		i.Hash, code = readHash(line)
	case 2:
		i.Size, code = readSize(line)
	case 3:
		i.Refs, code = readRefs(line)
	case 4:
		if strings.HasPrefix(line, fromHead) {
			i.From, code = readPath(line, fromHead)
			break
		}
		fallthrough // an info that was made from nothing told has its first signature here
	default:
		i.Signs, code = readSign(i.Signs, line)
	}
	return code
}

// readPath: the store path behind a head.
func readPath(line, head string) (string, api.Errno) {
	path, begins := strings.CutPrefix(line, head)
	if !begins {
		return "", api.ErrLine
	}
	if _, _, code := spath.Parse(path); code != api.OK {
		return "", code
	}
	return path, api.OK
}

// readHash: the digest of a line Hash.
func readHash(line string) (api.Digest, api.Errno) {
	letters, begins := strings.CutPrefix(line, hashHead)
	if !begins {
		return api.Digest{}, api.ErrLine
	}
	d, isDigest := digestOf(letters)
	if !isDigest {
		return api.Digest{}, api.ErrHash
	}
	return d, api.OK
}

// readSize: the number of a line Size.
func readSize(line string) (int, api.Errno) {
	digits, begins := strings.CutPrefix(line, sizeHead)
	if !begins || !isNumber(digits) {
		return 0, api.ErrLine
	}
	size := 0
	for i := range len(digits) {
		size = 10*size + int(digits[i]-'0')
		if size > api.MaxArchive { // ahead of the next digit: a long number would wrap round
			return 0, api.ErrSize
		}
	}
	return size, api.OK
}

// isNumber: decimal digits, without noughts ahead?
func isNumber(s string) bool {
	if s == "" || s[0] == '0' && len(s) > 1 {
		return false
	}
	for i := range len(s) {
		if s[i] < '0' || s[i] > '9' {
			return false
		}
	}
	return true
}

// readRefs: the references of a line Refs.
func readRefs(line string) ([]string, api.Errno) {
	rest, begins := strings.CutPrefix(line, refsHead)
	if begins && rest == "" {
		return nil, api.OK
	}
	told, behindBlank := strings.CutPrefix(rest, blank)
	if !begins || !behindBlank {
		return nil, api.ErrLine
	}
	// One more than there may be is enough to be refused, however many there are.
	refs := strings.SplitN(told, blank, api.MaxRefs+1)
	for i := range refs {
		refs[i] = spath.Dir + refs[i]
	}
	if code := spath.CheckRefs(refs); code != api.OK {
		return nil, code
	}
	return refs, api.OK
}

// readSign: the signatures with that of a line Sign behind them.
func readSign(signs []string, line string) ([]string, api.Errno) {
	sign, begins := strings.CutPrefix(line, signHead)
	if !begins {
		return nil, api.ErrLine
	}
	if code := checkNext(signs, sign); code != api.OK {
		return nil, code
	}
	return append(signs, sign), api.OK
}
