package scan

import (
	"depot/radix"
	"depot/spath"
)

// window lets what stands across two pieces be seen whole: it keeps the last bytes that came in, as long as they may be the beginning of a hash. Scanner and Rewriter embed it.
type window struct {
	taken int
	held  int
	room  [spath.Letters - 1]byte // the kept bytes are its first held ones
}

// Taken: the bytes taken in.
func (w *window) Taken() int { return w.taken }

// kept: the kept bytes, without the room behind them, so that what is put behind lies in memory of its own.
func (w *window) kept() []byte { return w.room[:w.held:w.held] }

// take: the kept bytes with p behind them.
func (w *window) take(p []byte) []byte {
	w.taken += len(p)
	return append(w.kept(), p...)
}

// keep: rest, which is shorter than a hash, is all that is kept.
func (w *window) keep(rest []byte) { w.held = copy(w.room[:], rest) }

// slide asks look at each place of text from which on there stand as many letters as a hash has; look answers how far it is to the next place. The answer is where the part begins in which no whole hash has room.
func slide(text []byte, look func(at int) int) int {
	at, seen := 0, 0 // what stands from at to seen is letters alone
windows:
	for at+spath.Letters <= len(text) {
		end := at + spath.Letters
		// From the end back: a byte that is no letter rules out all the windows that it lies in, most of them where it lies last.
		for i := end - 1; i >= seen; i-- {
			if radix.Value(text[i]) < 0 {
				at, seen = i+1, end
				continue windows
			}
		}
		seen = end
		at += look(at)
	}
	return at
}
