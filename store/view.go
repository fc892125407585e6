package store

import (
	"slices"
	"strings"

	"depot/api"
	"depot/table"
	"depot/tree"
)

// nought stands in no path, so nothing is taken for a part of one that stands behind it.
const nought = "\x00"

// View is what can be asked of a store. Its records are never changed where they lie: so forks share them.
type View struct {
	records *table.Table[string, api.Record]
	uses    *table.Table[string, struct{}] // its keys are made by use, so that a path's referrers stand together
	bytes   int
}

// Has: is the path there?
func (v *View) Has(path string) bool {
	_, there := v.records.Get(path)
	return there
}

// Get: what is kept under a path.
func (v *View) Get(path string) (api.Record, api.Errno) {
	r, there := v.records.Get(path)
	if !there {
		return api.Record{}, api.ErrMissing
	}
	return copied(r), api.OK
}

// Paths: all paths, rising.
func (v *View) Paths() []string { return v.records.Keys() }

// Len: how many paths there are.
func (v *View) Len() int { return v.records.Len() }

// Bytes: the bytes of all archives.
func (v *View) Bytes() int { return v.bytes }

// Refs: a path's references.
func (v *View) Refs(path string) ([]string, api.Errno) {
	r, there := v.records.Get(path)
	if !there {
		return nil, api.ErrMissing
	}
	return slices.Clone(r.Refs), api.OK
}

// Referrers: the other paths that refer to a path, rising.
func (v *View) Referrers(path string) ([]string, api.Errno) {
	if !v.Has(path) {
		return nil, api.ErrMissing
	}
	var users []string
	for key := range v.uses.From(use(path, "")) {
		user, refers := strings.CutPrefix(key, use(path, ""))
		if !refers {
			break
		}
		users = append(users, user)
	}
	return users, api.OK
}

// use: the key that tells that user refers to path.
func use(path, user string) string { return path + nought + user }

// others: a record's references but its own path.
func others(r api.Record) []string {
	return slices.DeleteFunc(slices.Clone(r.Refs), func(ref string) bool { return ref == r.Path })
}

// copied: the same record in new memory.
func copied(r api.Record) api.Record {
	r.Tree = tree.Copy(r.Tree)
	r.Refs = slices.Clone(r.Refs)
	return r
}
