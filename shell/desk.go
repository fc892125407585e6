package shell

import (
	"depot/api"
	"depot/env"
	"depot/log"
	"depot/table"
	"depot/tree"
)

// desk is all that a session has.
type desk struct {
	depot   *log.Depot
	draft   api.Node
	recipes *table.Table[string, string] // their texts under their names
	stream  string
	used    *table.Table[string, int] // how often, under the paths
	profile *env.Profile
}

// newDesk: a desk that is new but for its depot.
func newDesk(depot *log.Depot) *desk {
	return &desk{
		depot:   depot,
		draft:   emptyDir(),
		recipes: table.New[string, string](),
		used:    table.New[string, int](),
		profile: env.NewProfile(),
	}
}

func emptyDir() api.Node { return api.Node{Kind: api.Dir} }

// renew makes the draft an empty directory.
func (d *desk) renew(_ []string) ([]string, error) {
	d.draft = emptyDir()
	return ok(), nil
}

// put lays a node into the draft.
func (d *desk) put(path string, n api.Node) ([]string, error) {
	return d.change(tree.Put(d.draft, path, n))
}

// cut takes an entry out of the draft.
func (d *desk) cut(words []string) ([]string, error) {
	return d.change(tree.Cut(d.draft, words[0]))
}

// change makes a tree the draft, unless it is refused.
func (d *desk) change(n api.Node, code api.Errno) ([]string, error) {
	if code == api.OK {
		d.draft = n
	}
	return done(code)
}
