package listing

import (
	"depot/api"
	"depot/wire"
)

// lengthSize is how many bytes stand ahead of a framed word, for its length.
const lengthSize = 8

// ruler goes through the words of an archive, to where the files' contents lie.
type ruler struct {
	rows []Row // of the nodes that haven't been reached
	at   int
}

// measure sets At and Size of the rows of a well-formed tree, which stand in the order of tree.Walk.
func measure(n api.Node, rows []Row) {
	r := ruler{rows: rows}
	r.skip("depot-archive-1")
	r.node(n)
}

// node goes through a node's words, and takes its row and those of what lies below it.
func (r *ruler) node(n api.Node) {
	row := &r.rows[0]
	r.rows = r.rows[1:]
	r.skip("(", "type")
	switch n.Kind {
	case api.File:
		r.skip("regular")
		if n.Exec {
			r.skip("executable", "")
		}
		r.skip("contents")
		row.At, row.Size = r.at+lengthSize, len(n.Text)
		r.skip(n.Text)
	case api.Link:
		r.skip("symlink", "target", n.Text)
	case api.Dir:
		r.skip("directory")
		for _, kid := range n.Kids {
			r.skip("entry", "(", "name", kid.Name, "node")
			r.node(kid.Node)
			r.skip(")")
		}
	}
	r.skip(")")
}

// skip goes behind framed words.
func (r *ruler) skip(words ...string) {
	for _, word := range words {
		r.at += wire.Framed(len(word))
	}
}
