package log

import (
	"errors"

	"depot/api"
	"depot/wire"
)

// lengthSize is the bytes of a payload's length, and what the length is a multiple of.
const lengthSize = 8

// errSame: the change leaves everything as it is.
var errSame = errors.New("nothing changes")

// Open: the depot that the whole records of a text make, and how many bytes those have.
func Open(text string) (*Depot, int, api.Fault) {
	d := empty()
	at := 0
	for {
		payload, whole, err := next(text[at:])
		if whole {
			err = d.redo(payload)
		}
		if err != nil {
			return nil, 0, api.Fault{Code: api.ErrRecord, At: at}
		}
		if !whole {
			return d, at, api.Fault{}
		}
		at += lengthSize + len(payload)
	}
}

// next: the payload of the record that the text begins with, and whether the record is whole.
func next(text string) (payload string, whole bool, err error) {
	if len(text) < lengthSize {
		return "", false, nil
	}
	numbers, _ := wire.Split(text[:lengthSize], "i", 0)
	length, rest := numbers[0].Num, text[lengthSize:]
	switch {
	case length > api.MaxRecord || length%lengthSize != 0:
		return "", false, api.ErrRecord
	case uint64(len(rest)) < length:
		return "", false, nil
	}
	return rest[:length], true, nil
}

// redo makes a record's change as the call of its word makes it, which writes the record again. The error is an api.Errno, if the record is refused, and errSame, if it changes nothing.
func (d *Depot) redo(payload string) error {
	if words, fault := wire.Split(payload, "tt", api.MaxRecord); fault.Code == api.OK {
		return d.redoTwo(words[0].Text, words[1].Text)
	}
	if words, fault := wire.Split(payload, "ttt", api.MaxRecord); fault.Code == api.OK && words[0].Text == rootWord {
		return d.setRoot(words[1].Text, words[2].Text)
	}
	return api.ErrRecord
}

// redoTwo makes the change of a record of two words.
func (d *Depot) redoTwo(word, what string) error {
	switch word {
	case importWord:
		fresh, fault := d.Import(what)
		if fault.Code == api.OK && len(fresh) == 0 {
			return errSame
		}
		return errorOf(fault.Code)
	case cutWord:
		return errorOf(d.Cut(what))
	case unrootWord:
		return errorOf(d.DropRoot(what))
	}
	return api.ErrRecord
}

// errorOf: a code as an error; OK is none.
func errorOf(code api.Errno) error {
	if code == api.OK {
		return nil
	}
	return code
}

// codeOf: the code of an error; what changes nothing isn't refused.
func codeOf(err error) api.Errno {
	var code api.Errno
	if errors.As(err, &code) {
		return code
	}
	return api.OK
}
