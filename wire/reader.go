package wire

import "depot/api"

// phase is what the next byte belongs to.
type phase int

const (
	inNumber phase = iota
	inLength
	inText
	inPadding
	behindAll
)

// Cursor is the place in a run of bytes, and what was wrong there; readers embed it.
type Cursor struct {
	taken int
	fault api.Fault
}

// Taken: the bytes taken in ahead of the one with which a fault was found; all, if there is none.
func (c *Cursor) Taken() int { return c.taken }

// Fault: what was wrong first; the zero Fault while nothing is.
func (c *Cursor) Fault() api.Fault { return c.fault }

// Reader reads the items of a plan.
type Reader struct {
	Cursor
	plan   string // the letters of the items that haven't begun
	most   uint64
	closed bool
	phase  phase
	lack   int    // the bytes that the phase still waits for
	word   uint64 // what came of a number or of a length
	text   []byte // what came of a text
}

// NewReader: a Reader for the items of plan (i a number, t a text of most bytes at most).
func NewReader(plan string, most int) *Reader {
	r := &Reader{plan: plan, most: uint64(max(most, 0))}
	for i := range len(plan) {
		if plan[i] != 'i' && plan[i] != 't' {
			r.fail(api.ErrPlan, i)
			return r
		}
	}
	r.begin()
	return r
}

// Feed takes bytes in and answers the items that are whole with them.
func (r *Reader) Feed(p []byte) []Item {
	if r.closed || r.fault.Code != api.OK {
		return nil
	}
	var items []Item
bytes:
	for _, b := range p {
		switch r.phase {
		case behindAll:
			r.fail(api.ErrTrail, r.taken)
			break bytes
		case inPadding:
			if b != 0 {
				r.fail(api.ErrPad, r.taken)
				break bytes
			}
		case inText:
			r.text = append(r.text, b)
		default:
			r.word |= uint64(b) << (8 * (wordSize - r.lack))
			if r.tooLong() {
				r.fail(api.ErrLong, r.taken-(wordSize-1))
				break bytes
			}
		}
		r.taken++
		r.lack--
		if r.lack > 0 {
			continue bytes
		}
		if item, whole := r.finish(); whole {
			items = append(items, item)
		}
	}
	return items
}

// Close: the bytes end here.
func (r *Reader) Close() api.Fault {
	if r.fault.Code == api.OK && r.phase != behindAll {
		r.fail(api.ErrShort, r.taken)
	}
	r.closed = true
	return r.fault
}

// tooLong tells whether the byte that has just come ends a length above what is allowed.
func (r *Reader) tooLong() bool {
	return r.phase == inLength && r.lack == 1 && r.word > r.most
}

// finish leaves a phase whose bytes have all come, and answers the item, if it is whole with them.
func (r *Reader) finish() (Item, bool) {
	var item Item
	switch {
	case r.phase == inNumber:
		item = Item{Int: true, Num: r.word}
	case r.phase == inLength && r.word > 0:
		r.phase, r.lack = inText, int(r.word)
		return Item{}, false
	case r.phase == inText && padding(len(r.text)) > 0:
		r.phase, r.lack = inPadding, padding(len(r.text))
		return Item{}, false
	default:
		item = Item{Text: string(r.text)}
	}
	r.begin()
	return item, true
}

// begin goes to the next item of the plan, or behind the last one.
func (r *Reader) begin() {
	r.lack, r.word, r.text = wordSize, 0, nil
	if r.plan == "" {
		r.phase = behindAll
		return
	}
	r.phase = inNumber
	if r.plan[0] == 't' {
		r.phase = inLength
	}
	r.plan = r.plan[1:]
}

// fail notes the first fault and lets go of what nothing can ask for any more.
func (r *Reader) fail(code api.Errno, at int) {
	r.fault = api.Fault{Code: code, At: at}
	r.plan, r.text = "", nil
}
