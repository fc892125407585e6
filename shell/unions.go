package shell

import (
	"slices"
	"strconv"

	"depot/api"
	"depot/env"
)

// union makes the union of some paths' trees the draft.
func (d *desk) union(words []string) ([]string, error) {
	if len(words)%2 != 0 {
		return nil, api.ErrArgs
	}
	var parts []env.Part
	for pair := range slices.Chunk(words, 2) {
		prio, fits := priority(pair[1])
		if !fits {
			return nil, api.ErrArgs
		}
		r, code := d.depot.Get(pair[0])
		if code != api.OK {
			return nil, code
		}
		parts = append(parts, env.Part{Tree: r.Tree, Prio: prio})
	}
	n, path, code := env.Union(parts)
	if code == api.ErrConflict {
		return nil, &conflict{path: path}
	}
	return d.change(n, code)
}

// set makes a path the profile's next generation.
func (d *desk) set(words []string) ([]string, error) {
	if !d.depot.Has(words[0]) {
		return nil, api.ErrMissing
	}
	n, code := d.profile.Set(words[0])
	if code != api.OK {
		return nil, code
	}
	return okNumber(nil, n), nil
}

// gens tells the profile's generations.
func (d *desk) gens(_ []string) ([]string, error) {
	current, _ := d.profile.Current()
	all := d.profile.All()
	var lines []string
	for _, gen := range all {
		mark := " "
		if gen == current {
			mark = " * "
		}
		lines = append(lines, strconv.Itoa(gen.Number)+mark+gen.Path)
	}
	return okNumber(lines, len(all)), nil
}
