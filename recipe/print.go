package recipe

import "strings"

const (
	opening   = "Recipe("
	quote     = '"'
	backslash = '\\'
	escaped   = "\"\\\n\t" // what never stands as it is between quotes
	letters   = "\"\\nt"   // what stands for each of these behind a backslash
)

// printer is a recipe's text as far as it is written.
type printer struct {
	strings.Builder
}

// Print: the text of a recipe, right or not.
func Print(r Recipe) string {
	var p printer
	p.WriteString(opening)
	p.quoted(r.Name)
	p.WriteString(",[")
	for i, dep := range r.Deps {
		p.comma(i)
		p.quoted(dep)
	}
	p.WriteString("],[")
	for i, step := range r.Steps {
		p.comma(i)
		p.step(step)
	}
	p.WriteString("])")
	return p.String()
}

// comma parts the item at a place of a list from the one ahead of it.
func (p *printer) comma(place int) {
	if place > 0 {
		p.WriteByte(',')
	}
}

func (p *printer) step(s Step) {
	p.WriteByte('(')
	p.quoted(s.Op)
	for _, arg := range s.Args {
		p.WriteByte(',')
		p.quoted(arg)
	}
	p.WriteByte(')')
}

func (p *printer) quoted(s string) {
	p.WriteByte(quote)
	for i := range len(s) {
		if which := strings.IndexByte(escaped, s[i]); which >= 0 {
			p.WriteByte(backslash)
			p.WriteByte(letters[which])
		} else {
			p.WriteByte(s[i])
		}
	}
	p.WriteByte(quote)
}
