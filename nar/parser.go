package nar

import (
	"depot/api"
	"depot/name"
	"depot/tree"
	"depot/wire"
)

// lengthSize is how many bytes of a framed word are its length.
const lengthSize = 8

// next is which word comes next.
type next int

const (
	toArchive next = iota
	toNode         // the `(` of a node
	toType
	toKind
	toExecutable // or to the word contents
	toEmpty
	toContents // the word; the contents themselves are toFileText
	toFileText
	toTarget // the word; the target itself is toLinkText
	toLinkText
	toNodeEnd
	toEntry // or to the end of the directory
	toEntryOpen
	toName // the word; the name itself is toEntryName
	toEntryName
	toEntryNode // the word
	toEntryEnd
	toNothing
)

// place is how far the bytes were taken, and what was wrong there; the Parser embeds it.
type place struct {
	taken int
	held  int
	fault api.Fault
}

// Taken: the bytes taken in ahead of the one with which a fault was found.
func (p *place) Taken() int { return p.taken }

// Held: the bytes taken of a word that isn't whole.
func (p *place) Held() int { return p.held }

// Fault: what was wrong first.
func (p *place) Fault() api.Fault { return p.fault }

// openNode is a node whose `)` hasn't come.
type openNode struct {
	api.Node
	entry string // of a directory: the name of the entry whose node is being read
}

// Parser reads an archive.
type Parser struct {
	place
	part   bool
	closed bool
	next   next
	length uint64 // what came of a word's length
	text   []byte // what came of a word
	open   []openNode
	root   api.Node // once it isn't open any more
}

// NewParser: a Parser that reads one archive and nothing behind it.
func NewParser() *Parser { return &Parser{} }

// NewPart: a Parser that stops behind the archive's last byte.
func NewPart() *Parser { return &Parser{part: true} }

// Depth: the nodes that are open.
func (p *Parser) Depth() int { return len(p.open) }

// Whole: has the archive's last byte come in?
func (p *Parser) Whole() bool { return p.next == toNothing }

// Feed takes bytes in and answers how many.
func (p *Parser) Feed(b []byte) int {
	if p.closed || p.fault.Code != api.OK {
		return 0
	}
	before := p.taken
bytes:
	for _, c := range b {
		if p.part && p.Whole() {
			break bytes
		}
		p.fault = p.take(c)
		if p.fault.Code != api.OK {
			break bytes
		}
		p.taken++
	}
	return p.taken - before
}

// Close: the bytes end here: the tree, or what was wrong.
func (p *Parser) Close() (api.Node, api.Fault) {
	if p.fault.Code == api.OK && !p.Whole() {
		p.fault = api.Fault{Code: api.ErrShort, At: p.taken}
	}
	p.closed = true
	if p.fault.Code != api.OK {
		return api.Node{}, p.fault
	}
	return tree.Copy(p.root), api.Fault{}
}

// Parse: the tree of a whole archive.
func Parse(text string) (api.Node, api.Fault) {
	p := NewParser()
	p.Feed([]byte(text))
	return p.Close()
}

// take puts the next byte to its word, and answers what is wrong with it.
func (p *Parser) take(b byte) api.Fault {
	first := p.taken - p.held
	switch {
	case p.Whole():
		return api.Fault{Code: api.ErrTrail, At: p.taken}
	case p.taken == api.MaxArchive:
		return api.Fault{Code: api.ErrBig, At: p.taken}
	case p.held < lengthSize:
		p.length |= uint64(b) << (8 * p.held)
		if p.held == lengthSize-1 && p.length > api.MaxArchive {
			return api.Fault{Code: api.ErrLong, At: first}
		}
	case uint64(len(p.text)) < p.length:
		p.text = append(p.text, b)
	case b != 0:
		return api.Fault{Code: api.ErrPad, At: p.taken}
	}
	// A frame has no fewer bytes than its length, so nothing of a length that isn't whole is taken for one.
	if p.held+1 != wire.Framed(int(p.length)) {
		p.held++
		return api.Fault{}
	}
	if code := p.accept(string(p.text)); code != api.OK {
		return api.Fault{Code: code, At: first}
	}
	p.held, p.length, p.text = 0, 0, nil
	return api.Fault{}
}

// accept goes on behind a whole word; if the word may not stand there, it changes nothing.
func (p *Parser) accept(word string) api.Errno {
	switch p.next {
	case toFileText:
		p.last().Text = word
		p.next = toNodeEnd
	case toLinkText:
		if code := tree.Target(word); code != api.OK {
			return code
		}
		p.last().Text = word
		p.next = toNodeEnd
	case toEntryName:
		if code := p.last().checkEntry(word); code != api.OK {
			return code
		}
		p.last().entry = word
		p.next = toEntryNode
	default:
		return p.acceptFixed(word)
	}
	return api.OK
}

// acceptFixed is accept where only fixed words may stand.
func (p *Parser) acceptFixed(word string) api.Errno {
	at, fits := behind(p.next, word)
	switch {
	case !fits:
		return api.ErrToken
	case p.next == toNode && len(p.open) == api.MaxDepth:
		return api.ErrDeep
	case p.next == toNode:
		p.open = append(p.open, openNode{})
	case p.next == toKind:
		p.last().Kind = kindOf(word)
	case word == wordExecutable:
		p.last().Exec = true
	case at == toEntryEnd:
		at = p.closeNode()
	}
	p.next = at
	return api.OK
}

// behind: what comes behind a fixed word; false, if the word may not stand there.
func behind(at next, word string) (next, bool) {
	type step struct {
		at   next
		word string
	}
	switch (step{at, word}) {
	case step{toArchive, wordArchive}, step{toEntryNode, wordNode}:
		return toNode, true
	case step{toNode, wordOpen}:
		return toType, true
	case step{toType, wordType}:
		return toKind, true
	case step{toKind, wordRegular}:
		return toExecutable, true
	case step{toKind, wordSymlink}:
		return toTarget, true
	case step{toKind, wordDirectory}, step{toEntryEnd, wordClose}:
		return toEntry, true
	case step{toExecutable, wordExecutable}:
		return toEmpty, true
	case step{toEmpty, wordEmpty}:
		return toContents, true
	case step{toExecutable, wordContents}, step{toContents, wordContents}:
		return toFileText, true
	case step{toTarget, wordTarget}:
		return toLinkText, true
	case step{toNodeEnd, wordClose}, step{toEntry, wordClose}:
		return toEntryEnd, true
	case step{toEntry, wordEntry}:
		return toEntryOpen, true
	case step{toEntryOpen, wordOpen}:
		return toName, true
	case step{toName, wordName}:
		return toEntryName, true
	}
	return 0, false
}

// kindOf: the kind that a word behind the word type stands for.
func kindOf(word string) api.Kind {
	switch word {
	case wordRegular:
		return api.File
	case wordSymlink:
		return api.Link
	}
	return api.Dir
}

// last: the node that was opened last.
func (p *Parser) last() *openNode { return &p.open[len(p.open)-1] }

// closeNode puts the node that was opened last into the directory that holds it, and answers what comes behind it.
func (p *Parser) closeNode() next {
	closed := p.last().Node
	p.open = p.open[:len(p.open)-1]
	if len(p.open) == 0 {
		p.root = closed
		return toNothing
	}
	holder := p.last()
	holder.Kids = append(holder.Kids, api.Entry{Name: holder.entry, Node: closed})
	return toEntryEnd
}

// checkEntry: may an entry of that name come next in the directory?
func (n *openNode) checkEntry(word string) api.Errno {
	count := len(n.Kids)
	if code := name.Check(word); code != api.OK {
		return code
	}
	if count > 0 && name.Compare(n.Kids[count-1].Name, word) >= 0 {
		return api.ErrOrder
	}
	return api.OK
}
