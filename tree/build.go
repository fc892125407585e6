package tree

import (
	"depot/api"
	"depot/name"
)

// builder is a tree of which the last row's node, and those on the way to it, may still get entries.
type builder struct {
	open  []api.Entry // from the root, which has no name, to the last row's node
	bytes int
}

// Build: the tree of which Walk gives these rows.
func Build(rows []Row) (api.Node, api.Fault) {
	if len(rows) == 0 {
		return api.Node{}, api.Fault{Code: api.ErrEmpty}
	}
	b := builder{bytes: framed(firstWord)}
	for i, row := range rows {
		if !b.add(row) {
			return api.Node{}, api.Fault{Code: api.ErrOrder, At: i}
		}
	}
	b.closeTo(1)
	return b.open[0].Node, api.Fault{}
}

// add puts a row's node behind the others; false, if it can't stand there.
func (b *builder) add(row Row) bool {
	node := api.Node{Kind: row.Kind, Exec: row.Exec, Text: row.Text}
	names, fault := name.Split(row.Path)
	if fault.Code != api.OK || checkFields(node) != api.OK {
		return false
	}
	b.bytes += nodeBytes(node)
	entry := api.Entry{Node: node}
	if len(b.open) > 0 {
		if !b.openFor(names) {
			return false
		}
		entry.Name = names[len(names)-1]
		b.bytes += entryBytes(entry.Name)
	} else if len(names) > 0 {
		return false
	}
	b.open = append(b.open, entry)
	return b.bytes <= api.MaxArchive
}

// openFor closes what lies behind the directory that is to hold the names' last; false, if it isn't open, or can't hold that name next.
func (b *builder) openFor(names []string) bool {
	last := len(names) - 1
	if last < 0 || last >= len(b.open) {
		return false
	}
	for i, s := range names[:last] {
		if b.open[i+1].Name != s {
			return false
		}
	}
	b.closeTo(last + 1)
	holder := b.open[last].Node
	if holder.Kind != api.Dir {
		return false
	}
	count := len(holder.Kids)
	return count == 0 || name.Compare(holder.Kids[count-1].Name, names[last]) < 0
}

// closeTo leaves so many nodes open; the others become entries of those that hold them.
func (b *builder) closeTo(count int) {
	for len(b.open) > count {
		last := len(b.open) - 1
		holder := &b.open[last-1].Node
		holder.Kids = append(holder.Kids, b.open[last])
		b.open = b.open[:last]
	}
}
