package pool

import (
	"depot/api"
	"depot/gauge"
)

// Stats counts what a pool keeps.
type Stats struct {
	Texts  int // different texts
	Unique int // their bytes
	Total  int // the bytes of all holders
}

// counter goes on counting as holders come and go; the Pool embeds it.
type counter struct {
	stats Stats
}

// Count: the pool's counts.
func (c *counter) Count() Stats { return c.stats }

// Share: the bytes kept, as a share of those of all holders.
func (c *counter) Share() (float64, api.Errno) {
	return gauge.Share(uint64(c.stats.Unique), uint64(c.stats.Total))
}

// gain counts a holder more of a text of that size; the first one brings the text.
func (c *counter) gain(size int, first bool) {
	c.stats.Total += size
	if first {
		c.stats.Texts++
		c.stats.Unique += size
	}
}

// lose counts a holder less; with the last one the text goes.
func (c *counter) lose(size int, last bool) {
	c.stats.Total -= size
	if last {
		c.stats.Texts--
		c.stats.Unique -= size
	}
}
