package pack

import "depot/api"

// lengthSize is how many bytes the length ahead of the tokens has.
const lengthSize = 8

// phase is what the next byte is.
type phase int

const (
	inLength phase = iota
	toToken        // a token's first byte, or one behind the whole text
	inPlain        // one of the text's bytes as they are
	toNear         // the lower eight bits of how far a token points back
	toFar          // the upper eight
)

// spot is how far the bytes were taken, and what was wrong there; the Unpacker embeds it.
type spot struct {
	taken int
	fault api.Fault
}

// Taken: the bytes taken in ahead of the one with which a fault was found.
func (s *spot) Taken() int { return s.taken }

// Fault: what was wrong first.
func (s *spot) Fault() api.Fault { return s.fault }

// Unpacker makes a packed text whole.
type Unpacker struct {
	spot
	closed bool
	phase  phase
	length uint64 // of the text, as far as its bytes have come
	text   []byte
	lack   int // the bytes that the token still has to give
	near   byte
}

// NewUnpacker: an Unpacker with nothing taken in.
func NewUnpacker() *Unpacker { return &Unpacker{} }

// Feed takes bytes in and answers how many.
func (u *Unpacker) Feed(b []byte) int {
	if u.closed || u.fault.Code != api.OK {
		return 0
	}
	before := u.taken
	for _, c := range b {
		if fault := u.take(c); fault.Code != api.OK {
			u.fail(fault)
			break
		}
		u.taken++
	}
	return u.taken - before
}

// Close: the bytes end here: the text, or what was wrong.
func (u *Unpacker) Close() (string, api.Fault) {
	if u.fault.Code == api.OK && !u.whole() {
		u.fail(api.Fault{Code: api.ErrShort, At: u.taken})
	}
	u.closed = true
	return string(u.text), u.fault
}

// Unpack: the text of a whole packed text.
func Unpack(packed string) (string, api.Fault) {
	u := NewUnpacker()
	u.Feed([]byte(packed))
	return u.Close()
}

// fail notes the fault and lets go of the text, for which nothing can ask any more.
func (u *Unpacker) fail(fault api.Fault) {
	u.fault = fault
	u.text = nil
}

// whole: has the text's last byte come in?
func (u *Unpacker) whole() bool { return u.phase == toToken && u.missing() == 0 }

// missing: the bytes of the text that haven't come.
func (u *Unpacker) missing() int { return int(u.length) - len(u.text) }

// take puts the next byte to what it belongs to, and answers what is wrong with it.
func (u *Unpacker) take(b byte) api.Fault {
	switch u.phase {
	case inLength:
		return u.takeLength(b)
	case toToken:
		return u.takeToken(b)
	case inPlain:
		u.text = append(u.text, b)
		u.lack--
		if u.lack == 0 {
			u.phase = toToken
		}
	case toNear:
		u.near, u.phase = b, toFar
	case toFar:
		return u.takeFar(b)
	}
	return api.Fault{}
}

// takeLength takes a byte of the length.
func (u *Unpacker) takeLength(b byte) api.Fault {
	u.length |= uint64(b) << (8 * u.taken)
	if u.taken < lengthSize-1 {
		return api.Fault{}
	}
	if u.length > api.MaxArchive {
		return api.Fault{Code: api.ErrBig}
	}
	u.phase = toToken
	return api.Fault{}
}

// takeToken takes a token's first byte.
func (u *Unpacker) takeToken(b byte) api.Fault {
	if u.whole() {
		return api.Fault{Code: api.ErrTrail, At: u.taken}
	}
	u.phase, u.lack = inPlain, int(b)+1
	if b >= firstBack {
		u.phase, u.lack = toNear, int(b)-firstBack+leastBack
	}
	if u.lack > u.missing() {
		return api.Fault{Code: api.ErrExtra, At: u.taken}
	}
	return api.Fault{}
}

// takeFar takes the last byte of a token that points back.
func (u *Unpacker) takeFar(b byte) api.Fault {
	far := int(b)<<8 + int(u.near) + 1
	if far > len(u.text) {
		return api.Fault{Code: api.ErrFar, At: u.taken - 2}
	}
	// Byte by byte, as the token may go on over what it has just given.
	for range u.lack {
		u.text = append(u.text, u.text[len(u.text)-far])
	}
	u.phase = toToken
	return api.Fault{}
}
