package mirror

import (
	"slices"

	"depot/api"
	"depot/gauge"
	"depot/info"
	"depot/seal"
	"depot/store"
	"depot/table"
)

// Got is a path that was fetched, and from which mirror.
type Got struct {
	Path, From string
}

// offer is a mirror's file for a path.
type offer struct {
	File
	mirror int // the mirror's place in the list
	cost   float64
}

// found is what a path is to be, and the name of the mirror that gives it.
type found struct {
	api.Record
	from string
}

// search is where needed paths are looked for.
type search struct {
	kept    *store.Store
	needed  []string            // in the order in which they were met
	met     map[string]struct{} // the same paths
	missing []string            // those that weren't found
	finds   *table.Table[string, found]
}

// Fetch takes paths, and all that they refer to, from mirrors into a store, or nothing.
func Fetch(s *store.Store, mirrors []Mirror, ring *seal.Ring, k int, want []string) ([]Got, string, api.Errno) {
	q := search{kept: s, met: map[string]struct{}{}, finds: table.New[string, found]()}
	q.need(want)
	q.run(mirrors, ring, k)
	if len(q.missing) > 0 {
		return nil, slices.Min(q.missing), api.ErrMissing
	}
	order, stuck, code := inOrder(q.finds)
	if code != api.OK {
		return nil, stuck, code
	}
	got := make([]Got, len(order))
	for i, f := range order {
		s.Insert(f.Record) // Check took it, and its references are there: nothing is refused
		got[i] = Got{Path: f.Path, From: f.from}
	}
	return got, "", api.OK
}

// need: those of the paths that the store hasn't are needed.
func (q *search) need(paths []string) {
	for _, path := range paths {
		if _, before := q.met[path]; !before && !q.kept.Has(path) {
			q.met[path] = struct{}{}
			q.needed = append(q.needed, path)
		}
	}
}

// run looks for each needed path, and for those that it refers to.
func (q *search) run(mirrors []Mirror, ring *seal.Ring, k int) {
	offers := offersOf(mirrors)
rounds:
	for i := 0; i < len(q.needed); i++ { // the list grows on the way
		path := q.needed[i]
		for _, o := range quickest(offers[path]) {
			r, code := Check(o.File, path, ring, k)
			if code != api.OK {
				continue
			}
			q.finds.Put(path, found{Record: r, from: mirrors[o.mirror].Name})
			q.need(r.Refs)
			continue rounds
		}
		q.missing = append(q.missing, path)
	}
}

// offersOf: of each path the offers of those mirrors that have a cost, in the mirrors' order.
func offersOf(mirrors []Mirror) map[string][]offer {
	offers := map[string][]offer{}
mirrors:
	for place, m := range mirrors {
		for _, f := range m.Files {
			told, fault := info.Parse(f.Info)
			if fault.Code != api.OK {
				continue
			}
			cost, code := Cost(m, told.Size)
			if code != api.OK {
				continue mirrors // no size has a cost there
			}
			ahead := offers[told.Path]
			if n := len(ahead); n > 0 && ahead[n-1].mirror == place {
				continue // a mirror's file for a path is the first one
			}
			offers[told.Path] = append(ahead, offer{File: f, mirror: place, cost: cost})
		}
	}
	return offers
}

// quickest: the offers by their costs, the least first; equal ones stay in their order.
func quickest(offers []offer) []offer {
	return slices.SortedStableFunc(slices.Values(offers), func(a, b offer) int {
		switch {
		case gauge.Less(a.cost, b.cost):
			return -1
		case gauge.Less(b.cost, a.cost):
			return 1
		}
		return 0
	})
}
