package sweep

import (
	"container/heap"

	"depot/gauge"
	"depot/store"
)

// candidate is a dead path that nothing refers to any more.
type candidate struct {
	path  string
	size  int
	score float64
}

// candidates are a heap with the one on its top that goes first.
type candidates []candidate

func (c candidates) Len() int      { return len(c) }
func (c candidates) Swap(i, j int) { c[i], c[j] = c[j], c[i] }

func (c candidates) Less(i, j int) bool {
	if c[i].score != c[j].score {
		return gauge.Less(c[j].score, c[i].score)
	}
	return c[i].path < c[j].path
}

// Push and Pop are container/heap's, which puts what comes in where it belongs, and what goes out to the end.
func (c *candidates) Push(one any) { *c = append(*c, one.(candidate)) }

func (c *candidates) Pop() any {
	last := len(*c) - 1
	one := (*c)[last]
	*c = (*c)[:last]
	return one
}

// line is the dead paths of a store in the order in which they go. The store stays as it is: what has gone is told by the counts alone.
type line struct {
	store  *store.Store
	counts map[string]int // how often a path was asked for
	held   map[string]int // how many of a dead path's referrers, which are dead as well, haven't gone
	free   candidates
}

// newLine: the line with all dead paths in it.
func newLine(s *store.Store, roots []string, uses []Use) *line {
	l := &line{store: s, counts: map[string]int{}, held: map[string]int{}}
	for _, use := range uses {
		l.counts[use.Path] = use.Count
	}
dead:
	for _, path := range Dead(s, roots) {
		users, _ := s.Referrers(path)
		switch l.held[path] = len(users); l.held[path] {
		case 0:
			l.release(path)
		default:
			continue dead // it is released with the last of them
		}
	}
	return l
}

// release: the path may go from now on.
func (l *line) release(path string) {
	r, _ := l.store.Get(path)
	heap.Push(&l.free, candidate{path: path, size: r.Size, score: Score(r.Size, l.counts[path])})
}

// take: the path that goes next; those that it held last are released.
func (l *line) take() candidate {
	next := heap.Pop(&l.free).(candidate)
	refs, _ := l.store.Refs(next.path)
	for _, ref := range refs {
		l.held[ref]-- // of a live path, and of the path itself, it was 0 or none, so that it goes below and releases nothing
		if l.held[ref] == 0 {
			l.release(ref)
		}
	}
	return next
}
