package log

import (
	"strings"

	"depot/api"
	"depot/nar"
	"depot/radix"
	"depot/wire"
)

// The words that records begin with.
const (
	importWord = "import"
	cutWord    = "cut"
	rootWord   = "root"
	unrootWord = "unroot"
)

// streamWord stands in the entries of streams, as package closure writes them.
const streamWord = "depot-closure-1"

// The numbers that an entry, and the end of a stream, begin with.
const (
	endMark   = 0
	entryMark = 1
)

// write puts a record of some words to the end of the log.
func (d *Depot) write(words ...string) {
	var payload strings.Builder
	for _, word := range words {
		payload.WriteString(wire.Text(word))
	}
	d.records.WriteString(wire.Text(payload.String()))
}

// writePath writes the record of a path that is there.
func (d *Depot) writePath(path string) {
	r, _ := d.Get(path)
	d.write(importWord, streamOf(r))
}

// streamOf: the stream of the one entry of a store's record; package closure writes whole closures alone.
func streamOf(r api.Record) string {
	archive, _ := nar.Serial(r.Tree) // a store has well-formed trees alone
	var stream strings.Builder
	stream.WriteString(wire.Int(entryMark))
	stream.WriteString(archive)
	stream.WriteString(wire.Text(streamWord))
	stream.WriteString(wire.Text(r.Path))
	stream.WriteString(wire.Int(uint64(len(r.Refs))))
	for _, ref := range r.Refs {
		stream.WriteString(wire.Text(ref))
	}
	stream.WriteString(wire.Text(radix.Hex(string(r.Hash[:]))))
	stream.WriteString(wire.Int(endMark))
	return stream.String()
}
