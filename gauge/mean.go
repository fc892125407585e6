package gauge

import (
	"math"

	"depot/api"
)

// Mean is a running mean.
type Mean struct {
	value float64
	count int
}

// Add takes a sample in.
func (m *Mean) Add(sample float64) api.Errno {
	if math.IsNaN(sample) || math.IsInf(sample, 0) {
		return api.ErrNaN
	}
	if m.count == 0 {
		m.value = sample
	} else {
		m.value = Blend(m.value, sample)
	}
	m.count++
	return api.OK
}

// Value: the mean so far.
func (m *Mean) Value() float64 { return m.value }

// Count: the samples so far.
func (m *Mean) Count() int { return m.count }
