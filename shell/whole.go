package shell

import (
	"strconv"

	"depot/api"
	"depot/pool"
)

// stat counts the paths, their bytes, and what their files share.
func (d *desk) stat(_ []string) ([]string, error) {
	files := pool.New()
	for _, path := range d.depot.Paths() {
		r, _ := d.depot.Get(path)
		if code := files.PutTree(r.Tree); code != api.OK {
			return nil, code
		}
	}
	count := files.Count()
	var words []string
	for _, n := range []int{d.depot.Len(), d.depot.Bytes(), count.Texts, count.Unique, count.Total} {
		words = append(words, strconv.Itoa(n))
	}
	return ok(words...), nil
}

// save tells how many bytes the log has.
func (d *desk) save(_ []string) ([]string, error) { return okNumber(nil, len(d.depot.Log())), nil }

// compact writes the log anew, without what no longer counts.
func (d *desk) compact(words []string) ([]string, error) {
	d.depot.Compact()
	return d.save(words)
}

// crash goes on from the first bytes of the log alone.
func (s *Session) crash(words []string) ([]string, error) {
	size, code := number(words[0])
	if code != api.OK {
		return nil, code
	}
	text := s.Log()
	if size > len(text) {
		return nil, api.ErrRange
	}
	next, kept, fault := Resume(text[:size])
	if fault.Code != api.OK {
		return nil, fault.Code
	}
	s.desk = next.desk
	return okNumber(nil, kept), nil
}
