package seal

import (
	"slices"
	"strings"

	"depot/api"
	"depot/info"
	"depot/table"
)

// Ring is signers with their keys.
type Ring struct {
	keys *table.Table[string, string]
}

// judge knows signers, and what each would write under a text; the keys stay with the judge.
type judge interface {
	Signers() []string
	signature(signer, text string) string
}

// NewRing: a ring with no signers.
func NewRing() *Ring { return &Ring{keys: table.New[string, string]()} }

// Add takes a signer in.
func (r *Ring) Add(signer, key string) api.Errno {
	if code := info.CheckSigner(signer); code != api.OK {
		return code
	}
	if known, there := r.keys.Get(signer); there && known != key {
		return api.ErrClash
	}
	r.keys.Put(signer, key)
	return api.OK
}

// Drop: a signer is gone.
func (r *Ring) Drop(signer string) api.Errno {
	if !r.keys.Cut(signer) {
		return api.ErrMissing
	}
	return api.OK
}

// Signers: the signers' names, rising.
func (r *Ring) Signers() []string { return r.keys.Keys() }

// signature: what a signer of the ring writes under a text.
func (r *Ring) signature(signer, text string) string {
	key, _ := r.keys.Get(signer)
	sign, _ := Sign(signer, key, text) // Add took no name that this refuses
	return sign
}

// Count: how many of the ring's signers signed the text rightly.
func (r *Ring) Count(text string, signs []string) int { return countRight(r, text, signs) }

// countRight: how many of the judge's signers signed the text rightly.
func countRight(j judge, text string, signs []string) int {
	sorted := slices.Sorted(slices.Values(signs))
	count := 0
	for _, signer := range j.Signers() {
		if !named(sorted, signer) { // spares the digests of a long text
			continue
		}
		if _, among := slices.BinarySearch(sorted, j.signature(signer, text)); among {
			count++
		}
	}
	return count
}

// named: does one of the sorted signatures bear the signer's name?
func named(sorted []string, signer string) bool {
	at, _ := slices.BinarySearch(sorted, signer+signMark)
	return at < len(sorted) && strings.HasPrefix(sorted[at], signer+signMark)
}

// Verify: does an info have the signatures of k of the ring's signers?
func (r *Ring) Verify(i info.Info, k int) api.Errno {
	if code := info.Check(i); code != api.OK {
		return code
	}
	text, _ := info.Fingerprint(i) // refuses nothing that Check takes
	if r.Count(text, i.Signs) < k {
		return api.ErrKey
	}
	return api.OK
}
