package mirror_test

import (
	"crypto/sha256"
	"encoding/binary"
	"math"
	"math/rand"
	"reflect"
	"slices"
	"strings"
	"testing"

	"depot/api"
	"depot/info"
	"depot/mirror"
	"depot/nar"
	"depot/seal"
	"depot/store"
)

func file(text string) api.Node { return api.Node{Kind: api.File, Text: text} }

func dir(kids ...api.Entry) api.Node { return api.Node{Kind: api.Dir, Kids: kids} }

func in(name string, n api.Node) api.Entry { return api.Entry{Name: name, Node: n} }

// at: a path whose hash is so many times one letter.
func at(letter byte) string {
	return "/depot/store/" + strings.Repeat(string(letter), 32) + "-" + string(letter)
}

// sorted: the paths of these letters, rising.
func sorted(letters string) []string {
	var list []string
	for i := range len(letters) {
		list = append(list, at(letters[i]))
	}
	slices.Sort(list)
	return list
}

// archiveOf: the archive of a well-formed tree.
func archiveOf(n api.Node) string {
	archive, code := nar.Serial(n)
	if code != api.OK {
		panic(code)
	}
	return archive
}

// digest: that of a text, by the library.
func digest(text string) api.Digest { return sha256.Sum256([]byte(text)) }

// recordOf: what a store keeps of a file with that text, under the letter's path, with references to the letters' paths.
func recordOf(letter byte, text, refs string) api.Record {
	archive := archiveOf(file(text))
	return api.Record{Path: at(letter), Tree: file(text), Refs: sorted(refs), Hash: digest(archive), Size: len(archive)}
}

// packed: a text in tokens that hold its bytes as they are.
func packed(s string) string {
	out := binary.LittleEndian.AppendUint64(nil, uint64(len(s)))
	for piece := range slices.Chunk([]byte(s), 128) {
		out = append(out, byte(len(piece)-1))
		out = append(out, piece...)
	}
	return string(out)
}

// told: the info of a record, signed by these signers, each with its own name as the key.
func told(r api.Record, signers ...string) info.Info {
	i := info.Info{Path: r.Path, Hash: r.Hash, Size: r.Size, Refs: r.Refs}
	for _, signer := range signers {
		signed, code := seal.SignInfo(i, signer, signer)
		if code != api.OK {
			panic(code)
		}
		i = signed
	}
	return i
}

// printed: the text of an info.
func printed(i info.Info) string {
	text, code := info.Print(i)
	if code != api.OK {
		panic(code)
	}
	return text
}

// right: the right file for a record.
func right(r api.Record, signers ...string) mirror.File {
	return mirror.File{Info: printed(told(r, signers...)), Pack: packed(archiveOf(r.Tree))}
}

// ringOf: a ring of these signers, each with its own name as the key.
func ringOf(signers ...string) *seal.Ring {
	ring := seal.NewRing()
	for _, signer := range signers {
		if code := ring.Add(signer, signer); code != api.OK {
			panic(code)
		}
	}
	return ring
}

// with: a mirror of that name and that lag, one byte a second, with these files.
func with(name string, lag float64, files ...mirror.File) mirror.Mirror {
	return mirror.Mirror{Name: name, Lag: lag, Rate: 1, Files: files}
}

// plain: a record with nil in the place of its empty lists, so that reflect finds the same what is the same.
func plain(r api.Record) api.Record {
	r.Tree = plainTree(r.Tree)
	r.Refs = slices.Concat([]string(nil), r.Refs)
	return r
}

func plainTree(n api.Node) api.Node {
	var kids []api.Entry
	for _, kid := range n.Kids {
		kids = append(kids, in(kid.Name, plainTree(kid.Node)))
	}
	n.Kids = kids
	return n
}

func same(a, b api.Record) bool { return reflect.DeepEqual(plain(a), plain(b)) }

// asked: all that a store has.
func asked(s *store.Store) []any {
	all := []any{s.Len(), s.Bytes(), s.Paths()}
	for _, path := range s.Paths() {
		r, _ := s.Get(path)
		users, _ := s.Referrers(path)
		all = append(all, plain(r), users)
	}
	return all
}

func sameStores(a, b *store.Store) bool { return reflect.DeepEqual(asked(a), asked(b)) }

// filled: a store into which these records came.
func filled(t *testing.T, records ...api.Record) *store.Store {
	t.Helper()
	s := store.New()
	for _, r := range records {
		if code := s.Insert(r); code != api.OK {
			t.Fatalf("Insert of %s = %d", r.Path, code)
		}
	}
	return s
}

// copied: mirrors in new memory, to hold against later.
func copied(mirrors []mirror.Mirror) []mirror.Mirror {
	list := slices.Clone(mirrors)
	for i := range list {
		list[i].Files = slices.Clone(list[i].Files)
	}
	return list
}

// sameMirrors: the same in all fields, what is no number being like itself.
func sameMirrors(a, b []mirror.Mirror) bool {
	return slices.EqualFunc(a, b, func(x, y mirror.Mirror) bool {
		return x.Name == y.Name && math.Float64bits(x.Lag) == math.Float64bits(y.Lag) && math.Float64bits(x.Rate) == math.Float64bits(y.Rate) && slices.Equal(x.Files, y.Files)
	})
}

// answer is what Fetch answers.
type answer struct {
	got  []mirror.Got
	path string
	code api.Errno
}

// fetched is a second reading of P24.3, file by file; it changes the store.
func fetched(s *store.Store, mirrors []mirror.Mirror, ring *seal.Ring, k int, want []string) answer {
	var needed []string
	lacks := func(path string) bool { return !s.Has(path) && !slices.Contains(needed, path) }
	for _, path := range want {
		if lacks(path) {
			needed = append(needed, path)
		}
	}
	finds, from := map[string]api.Record{}, map[string]string{}
	for i := 0; i < len(needed); i++ {
		path, best := needed[i], math.NaN()
		for _, m := range mirrors {
			place := slices.IndexFunc(m.Files, func(f mirror.File) bool {
				i, fault := info.Parse(f.Info)
				return fault == api.Fault{} && i.Path == path
			})
			if place < 0 {
				continue
			}
			i, _ := info.Parse(m.Files[place].Info)
			cost, code := mirror.Cost(m, i.Size)
			if code != api.OK || cost >= best {
				continue
			}
			if r, code := mirror.Check(m.Files[place], path, ring, k); code == api.OK {
				finds[path], from[path], best = r, m.Name, cost
			}
		}
		for _, ref := range finds[path].Refs {
			if lacks(ref) {
				needed = append(needed, ref)
			}
		}
	}
	slices.Sort(needed)
	for _, path := range needed {
		if _, there := finds[path]; !there {
			return answer{path: path, code: api.ErrMissing}
		}
	}
	changed, a := s.Fork(), answer{}
	for len(needed) > 0 {
		next := slices.IndexFunc(needed, func(path string) bool { return changed.Insert(finds[path]) == api.OK })
		if next < 0 {
			return answer{path: needed[0], code: api.ErrCycle}
		}
		a.got = append(a.got, mirror.Got{Path: needed[next], From: from[needed[next]]})
		needed = slices.Delete(needed, next, next+1)
	}
	for _, g := range a.got {
		s.Insert(finds[g.Path])
	}
	return a
}

// holdFetch: Fetch answers what the second reading does, the store is then as that says, and nothing that was handed in has changed.
func holdFetch(t *testing.T, s *store.Store, mirrors []mirror.Mirror, ring *seal.Ring, k int, want ...string) answer {
	t.Helper()
	before, then := s.Fork(), s.Fork()
	expected := fetched(then, mirrors, ring, k, want)
	keptMirrors, keptWant, keptSigners := copied(mirrors), slices.Clone(want), ring.Signers()
	got, path, code := mirror.Fetch(s, mirrors, ring, k, want)
	if code != expected.code || path != expected.path || !slices.Equal(got, expected.got) {
		t.Fatalf("Fetch of %q = %v, %q, %d, not %v", want, got, path, code, expected)
	}
	if !sameStores(s, then) {
		t.Fatalf("behind Fetch the store has %v, not %v", asked(s), asked(then))
	}
	if code != api.OK && !sameStores(s, before) {
		t.Fatalf("with %d the store has changed", code)
	}
	if !sameMirrors(mirrors, keptMirrors) || !slices.Equal(want, keptWant) || !slices.Equal(ring.Signers(), keptSigners) {
		t.Fatal("an argument was changed")
	}
	clear(got[:cap(got)])
	return expected
}

// broken: a file that gives no right record, in one of many ways.
func broken(r *rand.Rand, rec api.Record) mirror.File {
	f, i := right(rec, "me"), told(rec, "me")
	switch r.Intn(8) {
	case 0:
		f.Info = ""
	case 1:
		f.Info = f.Info[:len(f.Info)-1]
	case 2:
		i.Size++
		f.Info = printed(i)
	case 3:
		i.Hash[r.Intn(32)] ^= 1
		f.Info = printed(i)
	case 4:
		f.Pack = f.Pack[:r.Intn(len(f.Pack))]
	case 5:
		f.Pack += "x"
	case 6:
		f.Pack = packed(archiveOf(file("other")))
	case 7:
		i.Path = at('0') // a right one, but for another path
		f.Info = printed(i)
	}
	return f
}

// randomMirrors: mirrors with files for the letters' paths, many of them not right, with references to few others.
func randomMirrors(r *rand.Rand, letters string) []mirror.Mirror {
	lags := []float64{0, 0, 1, 2, 2, 300, math.Copysign(0, -1), math.MaxFloat64, -1, math.NaN(), math.Inf(1)}
	rates := []float64{1, 1, 2, 2, 100, 1e-320, 1e300, 0, -1, math.NaN(), math.Inf(1)}
	var mirrors []mirror.Mirror
	names := r.Perm(4)
	for _, n := range names[:1+r.Intn(4)] {
		m := mirror.Mirror{Name: string(rune('p' + n)), Lag: lags[r.Intn(len(lags))], Rate: rates[r.Intn(len(rates))]}
		if r.Intn(3) > 0 {
			m.Lag, m.Rate = lags[r.Intn(6)], rates[r.Intn(5)]
		}
		for range r.Intn(3 * len(letters)) {
			letter := letters[r.Intn(len(letters))]
			var refs []byte
			for range r.Intn(3) {
				// Mostly one that stands ahead in the letters, so that there are few cycles.
				ref := letters[r.Intn(strings.IndexByte(letters, letter)+1)]
				if r.Intn(12) == 0 {
					ref = letters[r.Intn(len(letters))]
				}
				if !slices.Contains(refs, ref) {
					refs = append(refs, ref)
				}
			}
			rec := recordOf(letter, strings.Repeat(string(letter), r.Intn(3)*8), string(refs))
			switch r.Intn(6) {
			case 0:
				m.Files = append(m.Files, broken(r, rec))
			case 1, 2:
				m.Files = append(m.Files, right(rec, "me"))
			default:
				m.Files = append(m.Files, right(rec))
			}
		}
		mirrors = append(mirrors, m)
	}
	return mirrors
}
