package pool

import (
	"testing"

	"depot/api"
	"depot/sha"
)

// clashing: a pool that keeps the text "kept", of so many holders, under the digest of "wanted" (no two such texts are known, so it is put there by hand).
func clashing(holders int) *Pool {
	p := New()
	p.kept.Put(key(sha.Of("wanted")), content{"kept", holders})
	for i := range holders {
		p.gain(len("kept"), i == 0)
	}
	return p
}

func in(name, text string) api.Entry {
	return api.Entry{Name: name, Node: api.Node{Kind: api.File, Text: text}}
}

func TestPutOfAnotherTextUnderOneDigest(t *testing.T) { // P12.1
	p := clashing(2)
	before := p.Count()
	if d, code := p.Put("wanted"); d != (api.Digest{}) || code != api.ErrClash {
		t.Errorf("Put = %x, %d", d, code)
	}
	d := sha.Of("wanted")
	if text, code := p.Get(d); text != "kept" || code != api.OK || p.Holders(d) != 2 || p.Count() != before {
		t.Errorf("Get = %q, %d, Holders = %d, Count = %v", text, code, p.Holders(d), p.Count())
	}
	if d, code := p.Put("kept"); d != sha.Of("kept") || code != api.OK {
		t.Errorf("Put under the other digest = %x, %d", d, code)
	}
}

func TestPutTreeOfAnotherTextUnderOneDigest(t *testing.T) { // P12.4, rule 3
	trees := [][]api.Entry{
		{in("a", "wanted")},
		{in("a", "new"), in("b", "wanted")},
		{in("a", "wanted"), in("b", "new")},
		{in("a", "new"), in("b", "new"), in("c", "wanted"), in("d", "")},
	}
	for i, kids := range trees {
		p := clashing(1)
		if code := p.PutTree(api.Node{Kind: api.Dir, Kids: kids}); code != api.ErrClash {
			t.Errorf("PutTree of %d = %d", i, code)
		}
		if p.Count() != (Stats{Texts: 1, Unique: 4, Total: 4}) || p.Holders(sha.Of("new")) != 0 || p.Holders(sha.Of("wanted")) != 1 || len(p.Digests()) != 1 {
			t.Errorf("PutTree of %d left %v", i, p.Count())
		}
	}
}

func TestDropsGoByTheDigest(t *testing.T) { // P12.2, P12.4: whatever text is kept under it
	p := clashing(2)
	if code := p.DropTree(api.Node{Kind: api.File, Text: "wanted"}); code != api.OK || p.Count() != (Stats{Texts: 1, Unique: 4, Total: 4}) {
		t.Errorf("DropTree = %d, Count = %v", code, p.Count())
	}
	if code := p.Drop(sha.Of("wanted")); code != api.OK || p.Count() != (Stats{}) {
		t.Errorf("Drop = %d, Count = %v", code, p.Count())
	}
}
