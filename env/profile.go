package env

import (
	"depot/api"
	"depot/spath"
	"depot/table"
)

// Gen is a generation of a profile.
type Gen struct {
	Number int
	Path   string
}

// Profile is generations, of which one is current.
type Profile struct {
	gens    *table.Table[int, string] // the paths by the numbers
	last    int                       // the greatest number that was ever given
	current int                       // 0, which is no generation's number, while there are none
}

// NewProfile: a profile without generations.
func NewProfile() *Profile { return &Profile{gens: table.New[int, string]()} }

// Set makes a generation, which is current then.
func (p *Profile) Set(path string) (int, api.Errno) {
	if _, _, code := spath.Parse(path); code != api.OK {
		return 0, code
	}
	p.last++
	p.gens.Put(p.last, path)
	p.current = p.last
	return p.last, api.OK
}

// Current: the current generation, and whether there is one.
func (p *Profile) Current() (Gen, bool) {
	path, there := p.gens.Get(p.current)
	return Gen{Number: p.current, Path: path}, there
}

// Back: the generation ahead of the current one is current.
func (p *Profile) Back() api.Errno {
	ahead, _, there := p.gens.At(p.gens.Rank(p.current) - 1)
	if !there {
		return api.ErrNone
	}
	p.current = ahead
	return api.OK
}

// Go: a generation is current.
func (p *Profile) Go(n int) api.Errno {
	if _, there := p.gens.Get(n); !there {
		return api.ErrMissing
	}
	p.current = n
	return api.OK
}

// Drop: a generation is gone.
func (p *Profile) Drop(n int) api.Errno {
	_, there := p.gens.Get(n)
	switch {
	case !there:
		return api.ErrMissing
	case n == p.current:
		return api.ErrInUse
	}
	p.gens.Cut(n)
	return api.OK
}

// All: all generations, rising.
func (p *Profile) All() []Gen {
	all := make([]Gen, 0, p.gens.Len())
	for number, path := range p.gens.All() {
		all = append(all, Gen{Number: number, Path: path})
	}
	return all
}

// Keep drops all generations but the last k and the current one.
func (p *Profile) Keep(k int) []Gen {
	old := p.gens.Len() - max(k, 0)
	var gone []Gen
	for i, gen := range p.All() {
		if i < old && gen.Number != p.current {
			p.gens.Cut(gen.Number)
			gone = append(gone, gen)
		}
	}
	return gone
}
