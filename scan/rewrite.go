package scan

import (
	"slices"
	"strconv"
	"strings"

	"depot/api"
	"depot/sha"
	"depot/spath"
)

// noHash is what Modulo puts in the place of a text's own hash.
const noHash = "00000000000000000000000000000000"

// Rewriter changes one hash for another.
type Rewriter struct {
	window
	from, to string
	places   []int
	closed   bool
}

// NewRewriter: a Rewriter that puts to in the place of from.
func NewRewriter(from, to string) (*Rewriter, api.Errno) {
	for _, hash := range []string{from, to} {
		if code := spath.CheckHash(hash); code != api.OK {
			return nil, code
		}
	}
	return &Rewriter{from: from, to: to}, api.OK
}

// Feed takes bytes in and answers what can be told already.
func (r *Rewriter) Feed(p []byte) string {
	if r.closed {
		return ""
	}
	first := r.taken - r.held // the place of the first kept byte
	text := r.take(p)
	var out strings.Builder
	written := 0
	rest := slide(text, func(at int) int {
		if string(text[at:at+spath.Letters]) != r.from {
			return 1
		}
		r.places = append(r.places, first+at)
		out.Write(text[written:at])
		out.WriteString(r.to)
		written = at + spath.Letters
		return spath.Letters
	})
	out.Write(text[written:rest])
	r.keep(text[rest:])
	return out.String()
}

// Close: the rest.
func (r *Rewriter) Close() string {
	rest := string(r.kept())
	r.keep(nil)
	r.closed = true
	return rest
}

// Places: where the changed hashes stood.
func (r *Rewriter) Places() []int { return slices.Clone(r.places) }

// Rewrite: a text with to in the place of from, and where from stood.
func Rewrite(text, from, to string) (string, []int, api.Errno) {
	r, code := NewRewriter(from, to)
	if code != api.OK {
		return "", nil, code
	}
	rewritten := r.Feed([]byte(text))
	rewritten += r.Close()
	return rewritten, r.Places(), api.OK
}

// Modulo: the digest of a text that doesn't hang on which hash it has for itself, and where that stood.
func Modulo(text, self string) (api.Digest, []int, api.Errno) {
	rewritten, places, code := Rewrite(text, self, noHash)
	if code != api.OK {
		return api.Digest{}, nil, code
	}
	told := sha.New()
	told.WriteText(rewritten)
	// The places tell apart a text that has the hash and one that has the noughts.
	for _, place := range places {
		told.WriteText("|" + strconv.Itoa(place))
	}
	return told.Sum(), places, api.OK
}
