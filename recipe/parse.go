package recipe

import (
	"strings"

	"depot/api"
)

// parser is a text and how far it was read.
type parser struct {
	text string
	at   int
}

// broken is what reading gives up with: the place of the first byte with which no recipe's text goes on.
type broken struct {
	at int
}

// Parse: the recipe that Print wrote so. The error is a *api.Fault.
func Parse(text string) (got Recipe, err error) {
	defer func() {
		if met := recover(); met != nil {
			got, err = Recipe{}, &api.Fault{Code: api.ErrSyntax, At: met.(broken).at}
		}
	}()
	p := parser{text: text}
	got = p.recipe()
	if p.at < len(text) {
		p.giveUp()
	}
	return got, nil
}

func (p *parser) recipe() Recipe {
	var r Recipe
	p.expect(opening)
	r.Name = p.quoted()
	p.expect(",[")
	r.Deps = list(p, p.quoted)
	p.expect(",[")
	r.Steps = list(p, p.step)
	p.expect(")")
	return r
}

// list reads items with a comma between each two, and the bracket behind them.
func list[T any](p *parser, item func() T) []T {
	var items []T
	for !p.skip(']') {
		if len(items) > 0 {
			p.expect(",")
		}
		items = append(items, item())
	}
	return items
}

func (p *parser) step() Step {
	p.expect("(")
	s := Step{Op: p.quoted()}
	for !p.skip(')') {
		p.expect(",")
		s.Args = append(s.Args, p.quoted())
	}
	return s
}

// quoted reads a text between quotes.
func (p *parser) quoted() string {
	var s strings.Builder
	p.expect(string(quote))
	for !p.skip(quote) {
		s.WriteByte(p.within())
	}
	return s.String()
}

// within reads what stands for one byte between quotes.
func (p *parser) within() byte {
	if p.skip(backslash) {
		which := strings.IndexByte(letters, p.next())
		if which < 0 {
			p.giveUp()
		}
		p.at++
		return escaped[which]
	}
	c := p.next()
	if strings.IndexByte(escaped, c) >= 0 {
		p.giveUp()
	}
	p.at++
	return c
}

// expect reads these bytes.
func (p *parser) expect(fixed string) {
	for i := range len(fixed) {
		if !p.skip(fixed[i]) {
			p.giveUp()
		}
	}
}

// skip reads the byte c, if it comes next: does it?
func (p *parser) skip(c byte) bool {
	if p.at == len(p.text) || p.text[p.at] != c {
		return false
	}
	p.at++
	return true
}

// next: the byte that comes next, which isn't read yet.
func (p *parser) next() byte {
	if p.at == len(p.text) {
		p.giveUp()
	}
	return p.text[p.at]
}

// giveUp: no recipe's text goes on as this one does.
func (p *parser) giveUp() { panic(broken{at: p.at}) }
