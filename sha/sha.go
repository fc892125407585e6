// Package sha is SHA-256: digests of texts, whole or written piece by piece.
package sha

import "depot/api"

// count is how many bytes have been written.
type count struct {
	size int
}

// State is a digest that is being worked out: the words behind the whole blocks, and the block that is being filled.
type State struct {
	count
	words [8]uint32
	block [64]byte
}

// Pad: what is put behind a message of n bytes.
func Pad(n int) string {
	if n < 0 {
		return ""
	}
	// The rest by 64 is taken first, so that the greatest n doesn't wrap round.
	noughts := (64 + 55 - n%64) % 64
	pad := make([]byte, 1+noughts+8)
	pad[0] = 128
	bits := 8 * uint64(n)
	for i := range 8 {
		pad[len(pad)-1-i] = byte(bits >> (8 * i))
	}
	return string(pad)
}

// New: a State with nothing written.
func New() *State { return &State{words: startWords()} }

// Reset: as New.
func (s *State) Reset() { *s = State{words: startWords()} }

// Write adds bytes.
func (s *State) Write(p []byte) {
	for len(p) > 0 {
		n := copy(s.block[s.size%64:], p)
		s.advance(n)
		p = p[n:]
	}
}

// WriteText adds a text.
func (s *State) WriteText(t string) {
	for len(t) > 0 {
		n := copy(s.block[s.size%64:], t)
		s.advance(n)
		t = t[n:]
	}
}

// advance counts n bytes that were laid into the block, at least one and no more than there was room for.
func (s *State) advance(n int) {
	s.size += n
	if s.size%64 == 0 {
		s.words = Block(s.words, s.block)
	}
}

// Sum: the digest of what has been written; the State goes on as it was.
func (s *State) Sum() api.Digest {
	padded := *s
	padded.WriteText(Pad(s.size))
	return digestOf(padded.words)
}

// Fork: another State with the same written, which goes on by itself.
func (s *State) Fork() *State {
	other := *s
	return &other
}

// Of: the digest of a text.
func Of(text string) api.Digest {
	s := New()
	s.WriteText(text)
	return s.Sum()
}

// Size: the bytes written so far.
func (c *count) Size() int { return c.size }

func digestOf(words [8]uint32) api.Digest {
	var d api.Digest
	for i, w := range words {
		d[4*i] = byte(w >> 24)
		d[4*i+1] = byte(w >> 16)
		d[4*i+2] = byte(w >> 8)
		d[4*i+3] = byte(w)
	}
	return d
}
