package nar_test

import (
	"encoding/binary"
	"math/rand"
	"slices"
	"strings"

	"depot/api"
	"depot/name"
)

func file(text string) api.Node { return api.Node{Kind: api.File, Text: text} }

func exec(text string) api.Node { return api.Node{Kind: api.File, Exec: true, Text: text} }

func link(target string) api.Node { return api.Node{Kind: api.Link, Text: target} }

func dir(kids ...api.Entry) api.Node { return api.Node{Kind: api.Dir, Kids: kids} }

func in(name string, n api.Node) api.Entry { return api.Entry{Name: name, Node: n} }

func fault(code api.Errno, at int) api.Fault { return api.Fault{Code: code, At: at} }

// nested: a node below so many directories, each with the one entry d.
func nested(levels int, n api.Node) api.Node {
	for range levels {
		n = dir(in("d", n))
	}
	return n
}

// framed: words with their lengths ahead and noughts behind, one after the other.
func framed(words ...string) string {
	var b []byte
	for _, w := range words {
		b = binary.LittleEndian.AppendUint64(b, uint64(len(w)))
		b = append(b, w...)
		for len(b)%8 != 0 {
			b = append(b, 0)
		}
	}
	return string(b)
}

// wordsOf: the words of a node in an archive.
func wordsOf(n api.Node) []string {
	switch {
	case n.Kind == api.File && n.Exec:
		return []string{"(", "type", "regular", "executable", "", "contents", n.Text, ")"}
	case n.Kind == api.File:
		return []string{"(", "type", "regular", "contents", n.Text, ")"}
	case n.Kind == api.Link:
		return []string{"(", "type", "symlink", "target", n.Text, ")"}
	}
	words := []string{"(", "type", "directory"}
	for _, kid := range n.Kids {
		words = append(words, "entry", "(", "name", kid.Name, "node")
		words = append(words, wordsOf(kid.Node)...)
		words = append(words, ")")
	}
	return append(words, ")")
}

// archive: the archive of a well-formed tree, by the document's words.
func archive(n api.Node) string {
	return framed("depot-archive-1") + framed(wordsOf(n)...)
}

// story is what the document says of a parser that was fed a text.
type story struct {
	taken, held, depth int
	whole              bool
	fault              api.Fault
}

// teller goes through a text from its beginning to where it is refused or ends.
type teller struct {
	text      string
	at, depth int
	whole     bool
	root      api.Node
}

// storyOf tells the story of a text, and its tree.
func storyOf(text string, part bool) (s story, root api.Node) {
	t := &teller{text: text}
	defer func() {
		if got, ok := recover().(story); ok {
			got.depth, got.whole = t.depth, t.whole
			s, root = got, t.root
		}
	}()
	t.fixed("depot-archive-1")
	t.root = t.node()
	t.whole = true
	if !part && len(text) > t.at {
		panic(story{taken: t.at, fault: fault(api.ErrTrail, t.at)})
	}
	return story{taken: t.at, whole: true}, t.root
}

// word reads a word, byte by byte; may says whether it may stand there.
func (t *teller) word(may func(word string) api.Errno) string {
	first, length, whole := t.at, 0, -1
	stop := func(f api.Fault) { panic(story{taken: t.at, held: t.at - first, fault: f}) }
	for ; ; t.at++ {
		if t.at == len(t.text) {
			stop(api.Fault{})
		}
		if t.at == 1048576 {
			stop(fault(api.ErrBig, t.at))
		}
		if t.at == first+7 {
			n := binary.LittleEndian.Uint64([]byte(t.text[first : first+8]))
			if n > 1048576 {
				stop(fault(api.ErrLong, first))
			}
			length = int(n)
			for whole = 8 + length; whole%8 != 0; {
				whole++
			}
		}
		if whole >= 0 && t.at >= first+8+length && t.text[t.at] != 0 {
			stop(fault(api.ErrPad, t.at))
		}
		if t.at == first+whole-1 {
			break
		}
	}
	word := t.text[first+8 : first+8+length]
	if code := may(word); code != api.OK {
		stop(fault(code, first))
	}
	t.at++
	return word
}

func (t *teller) fixed(words ...string) string {
	return t.word(func(word string) api.Errno {
		if !slices.Contains(words, word) {
			return api.ErrToken
		}
		return api.OK
	})
}

func (t *teller) node() api.Node {
	t.word(func(word string) api.Errno {
		switch {
		case word != "(":
			return api.ErrToken
		case t.depth == 32:
			return api.ErrDeep
		}
		return api.OK
	})
	t.depth++
	t.fixed("type")
	var n api.Node
	switch t.fixed("regular", "symlink", "directory") {
	case "regular":
		n.Kind = api.File
		if t.fixed("executable", "contents") == "executable" {
			n.Exec = true
			t.fixed("")
			t.fixed("contents")
		}
		n.Text = t.word(func(string) api.Errno { return api.OK })
		t.fixed(")")
	case "symlink":
		n.Kind = api.Link
		t.fixed("target")
		n.Text = t.word(func(word string) api.Errno {
			if word == "" || strings.Contains(word, "\x00") {
				return api.ErrTarget
			}
			return api.OK
		})
		t.fixed(")")
	case "directory":
		n.Kind = api.Dir
		for t.fixed("entry", ")") == "entry" {
			n.Kids = append(n.Kids, t.entry(n.Kids))
		}
	}
	t.depth--
	return n
}

func (t *teller) entry(ahead []api.Entry) api.Entry {
	t.fixed("(")
	t.fixed("name")
	s := t.word(func(word string) api.Errno {
		code := name.Check(word)
		if code == api.OK && len(ahead) > 0 && word <= ahead[len(ahead)-1].Name {
			return api.ErrOrder
		}
		return code
	})
	t.fixed("node")
	n := t.node()
	t.fixed(")")
	return in(s, n)
}

// randomTree: a well-formed tree.
func randomTree(r *rand.Rand, levels int) api.Node {
	switch k := r.Intn(8); {
	case levels > 0 && k > 2:
		n := dir()
		for _, s := range []string{")", "a", "ab", "entry", "name-of-more-than-16", "\xff"} {
			if r.Intn(3) == 0 {
				n.Kids = append(n.Kids, in(s, randomTree(r, levels-1)))
			}
		}
		return n
	case k == 0:
		return link(strings.Repeat("t", 1+r.Intn(9)))
	case k == 1:
		return exec(strings.Repeat("\x00", r.Intn(10)))
	}
	return file([]string{"", ")", "hello", "12345678", "123456789", strings.Repeat("c", r.Intn(40))}[r.Intn(6)])
}

// spoiled: the archive's text with a change that mostly leaves no archive.
func spoiled(r *rand.Rand, n api.Node) string {
	words := append([]string{"depot-archive-1"}, wordsOf(n)...)
	i, j := r.Intn(len(words)), r.Intn(len(words))
	text := ""
	switch r.Intn(8) {
	case 0: // another word
		words[i] = []string{"", "(", ")", "type", "regular", "executable", "contents", "symlink", "target", "directory", "entry", "name", "node", "x", ".", "..", "a/b", "a\x00"}[r.Intn(18)]
	case 1:
		words[i], words[j] = words[j], words[i]
	case 2:
		words = slices.Delete(words, i, i+1)
	case 3:
		words = slices.Insert(words, i, words[j])
	case 4:
		words[i] += "\x00"
	case 5: // another byte
		text = framed(words...)
		at := r.Intn(len(text))
		text = text[:at] + string([]byte{text[at] ^ 1<<r.Intn(8)}) + text[at+1:]
		return text
	case 6: // bytes that are missing, or too many
		text = framed(words...)
		at := r.Intn(len(text))
		return text[:at] + text[min(at+r.Intn(10), len(text)):]
	case 7:
		return framed(words...) + strings.Repeat("\x00", r.Intn(20))
	}
	return framed(words...)
}

// scribble changes all that can be changed of a tree in place, spare room too.
func scribble(n *api.Node) {
	kids := n.Kids[:cap(n.Kids)]
	for i := range kids {
		scribble(&kids[i].Node)
		kids[i].Name += "!"
	}
	n.Kind, n.Text = api.Link, n.Text+"!"
}
