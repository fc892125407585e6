package mirror

import (
	"math"
	"slices"

	"depot/api"
	"depot/gauge"
	"depot/table"
)

// Meter learns how quick mirrors are.
type Meter struct {
	means *table.Table[string, gauge.Mean] // of bytes a second, by the mirrors' names
}

// NewMeter: a meter that has learnt nothing.
func NewMeter() *Meter { return &Meter{means: table.New[string, gauge.Mean]()} }

// Note: so many bytes came from a mirror in so many seconds.
func (m *Meter) Note(name string, bytes int, seconds float64) api.Errno {
	if bytes < 0 || !isFinite(seconds) || seconds <= 0 {
		return api.ErrRate
	}
	rate := float64(bytes) / seconds
	if math.IsInf(rate, 0) {
		return api.ErrRate
	}
	mean, _ := m.means.Get(name)
	mean.Add(rate)
	m.means.Put(name, mean)
	return api.OK
}

// Rate: the bytes a second of a mirror, as learnt.
func (m *Meter) Rate(name string) (float64, api.Errno) {
	mean, noted := m.means.Get(name)
	if !noted {
		return 0, api.ErrMissing
	}
	return mean.Value(), api.OK
}

// Apply: the mirrors with the rates that were learnt.
func (m *Meter) Apply(mirrors []Mirror) []Mirror {
	list := make([]Mirror, len(mirrors))
	for i, one := range mirrors {
		one.Files = slices.Clone(one.Files)
		if rate, code := m.Rate(one.Name); code == api.OK {
			one.Rate = rate
		}
		list[i] = one
	}
	return list
}
