package shell

import (
	"strconv"

	"depot/api"
	"depot/build"
	"depot/radix"
	"depot/sha"
)

// recipe takes a recipe's text.
func (d *desk) recipe(words []string) ([]string, error) {
	text := words[0]
	// The earlier texts make a book, so that this one alone can be at fault: by itself, or as its name is there.
	book, fault := build.NewBook([]string{text})
	if fault.Code != api.OK {
		return nil, fault.Code
	}
	name := book.Names()[0]
	if _, there := d.recipes.Get(name); there {
		return nil, api.ErrTwice
	}
	d.recipes.Put(name, text)
	return ok(name), nil
}

// book: the session's recipes; no text that was taken is at fault.
func (d *desk) book() *build.Book {
	var texts []string
	for _, text := range d.recipes.All() {
		texts = append(texts, text)
	}
	book, _ := build.NewBook(texts)
	return book
}

// build makes a recipe's tree, with all that it uses, and takes them into the depot.
func (d *desk) build(words []string) ([]string, error) {
	kept := d.depot.Store()
	made, err := d.book().Realise(kept, words[0])
	if err != nil {
		return nil, err
	}
	var lines []string
	for _, m := range made {
		r, _ := kept.Get(m.Path)
		d.depot.Insert(r) // never refused: the fork was the same, and has taken it
		lines = append(lines, m.Name+" "+m.Path)
	}
	return okNumber(lines, len(made)), nil
}

// export makes what is reached from some paths the stream.
func (d *desk) export(words []string) ([]string, error) {
	stream, code := d.depot.Export(words)
	if code != api.OK {
		return nil, code
	}
	d.stream = stream
	digest := sha.Of(stream)
	return ok(strconv.Itoa(len(stream)), radix.Hex(string(digest[:]))), nil
}

// takeStream takes the stream into the depot.
func (d *desk) takeStream(_ []string) ([]string, error) {
	fresh, fault := d.depot.Import(d.stream)
	return listed(fresh, fault.Code)
}
