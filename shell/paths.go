package shell

import (
	"slices"
	"strconv"

	"depot/api"
	"depot/listing"
	"depot/nar"
	"depot/sweep"
	"depot/tree"
)

// rowsOf: the answer that tells a tree's rows.
func rowsOf(n api.Node) ([]string, error) {
	rows, code := tree.Walk(n)
	if code != api.OK {
		return nil, code
	}
	var lines []string
	for _, row := range rows {
		lines = append(lines, rowLine(row))
	}
	return okNumber(lines, len(rows)), nil
}

// rowLine: a row as it is told.
func rowLine(row tree.Row) string {
	path := Escape(row.Path)
	switch {
	case row.Kind == api.Dir:
		return "d " + path
	case row.Kind == api.Link:
		return "l " + path + " " + Escape(row.Text)
	case row.Exec:
		return "x " + path + " " + strconv.Itoa(len(row.Text))
	}
	return "f " + path + " " + strconv.Itoa(len(row.Text))
}

// use: the tree of a path, which is used once more.
func (d *desk) use(path string) (api.Node, api.Errno) {
	r, code := d.depot.Get(path)
	if code != api.OK {
		return api.Node{}, code
	}
	count, _ := d.used.Get(path)
	d.used.Put(path, count+1)
	return r.Tree, api.OK
}

// add takes the draft into the depot.
func (d *desk) add(words []string) ([]string, error) {
	refs := slices.Sorted(slices.Values(words[1:]))
	path, code := d.depot.Add(words[0], d.draft, refs)
	if code != api.OK {
		return nil, code
	}
	return ok(path), nil
}

// load makes a path's tree the draft.
func (d *desk) load(words []string) ([]string, error) { return d.change(d.use(words[0])) }

// list tells the rows of a path's tree.
func (d *desk) list(words []string) ([]string, error) {
	n, code := d.use(words[0])
	if code != api.OK {
		return nil, code
	}
	return rowsOf(n)
}

// cat tells the contents of a file of a path's tree.
func (d *desk) cat(words []string) ([]string, error) {
	n, code := d.use(words[0])
	if code != api.OK {
		return nil, code
	}
	archive, code := nar.Serial(n)
	if code != api.OK {
		return nil, code
	}
	contents, code := listing.Contents(archive, words[1])
	if code != api.OK {
		return nil, code
	}
	return ok(Escape(contents)), nil
}

// roots tells the roots.
func (d *desk) roots(_ []string) ([]string, error) {
	roots := d.depot.Roots()
	var lines []string
	for _, root := range roots {
		lines = append(lines, root.Name+" "+root.Path)
	}
	return okNumber(lines, len(roots)), nil
}

// collect lets go of what no root reaches, till so many bytes are gained.
func (d *desk) collect(words []string) ([]string, error) {
	want, code := number(words[0])
	if code != api.OK {
		return nil, code
	}
	var uses []sweep.Use
	for path, count := range d.used.All() {
		uses = append(uses, sweep.Use{Path: path, Count: count})
	}
	gone, gained := d.depot.Collect(uses, want)
	return okNumber(gone, gained), nil
}
