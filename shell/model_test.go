package shell_test

import (
	"crypto/sha256"
	"encoding/hex"
	"errors"
	"fmt"
	"maps"
	"math/rand"
	"regexp"
	"slices"
	"strconv"
	"strings"
	"testing"

	"depot/api"
	"depot/build"
	"depot/env"
	"depot/log"
	"depot/pool"
	"depot/shell"
	"depot/sweep"
	"depot/tree"
)

// model is a second reading of the chapter, over the layers below.
type model struct {
	depot   *log.Depot
	draft   api.Node
	texts   []string
	stream  string
	used    map[string]int
	profile *env.Profile
}

var (
	wordForm  = regexp.MustCompile(`^(?s:%|(?:%[0-9a-f]{2}|[^% ])+)$`)
	escape    = regexp.MustCompile(`%[0-9a-f]{2}`)
	numeral   = regexp.MustCompile(`^(?:0|[1-9][0-9]{0,8})$`)
	prioForm  = regexp.MustCompile(`^-?(0|[1-9][0-9]*)(?:\.([0-9]+))?$`)
	nameForm  = regexp.MustCompile(`^Recipe\("([^"]*)"`)
	lineArity = arities()
)

func newModel(text string) (*model, int) {
	depot, kept, fault := log.Open(text)
	if fault.Code != api.OK {
		panic(fmt.Sprint("a log of the program: ", fault))
	}
	return &model{depot: depot, draft: api.Node{Kind: api.Dir}, used: map[string]int{}, profile: env.NewProfile()}, kept
}

// wordsOf: the words of a line that isn't too long, if all are words.
func wordsOf(line string) ([]string, bool) {
	var words []string
	for _, piece := range strings.Split(line, " ") {
		// By bytes, as regexp takes runes.
		wide := latin(piece)
		if !wordForm.MatchString(wide) {
			return nil, false
		}
		if piece == "%" {
			words = append(words, "")
			continue
		}
		words = append(words, escape.ReplaceAllStringFunc(piece, func(e string) string {
			b, _ := hex.DecodeString(e[1:])
			return string(b)
		}))
	}
	return words, true
}

// latin: a rune for each byte.
func latin(s string) string {
	var b strings.Builder
	for i := range len(s) {
		b.WriteRune(rune(s[i]))
	}
	return b.String()
}

func refusedBy(code api.Errno, more ...any) []string {
	return []string{strings.TrimSuffix(fmt.Sprintln(append([]any{"error", int(code)}, more...)...), "\n")}
}

func (m *model) line(line string) []string {
	if len(line) > 4096 {
		return refusedBy(api.ErrLong)
	}
	words, fits := wordsOf(line)
	if !fits {
		return refusedBy(api.ErrArgs)
	}
	arity, known := lineArity[words[0]]
	if !known {
		return refusedBy(api.ErrCommand)
	}
	if n := len(words) - 1; n < arity[0] || arity[1] >= 0 && n > arity[1] {
		return refusedBy(api.ErrArgs)
	}
	for _, part := range []func(string, []string) []string{m.draftLine, m.pathLine, m.askLine, m.recipeLine, m.unionLine, m.wholeLine} {
		if answer := part(words[0], words[1:]); answer != nil {
			return answer
		}
	}
	panic(words[0])
}

// coded: ok, or why not.
func coded(code api.Errno) []string {
	if code != api.OK {
		return refusedBy(code)
	}
	return []string{"ok"}
}

func (m *model) become(n api.Node, code api.Errno) []string {
	if code == api.OK {
		m.draft = n
	}
	return coded(code)
}

func (m *model) draftLine(op string, w []string) []string {
	put := func(n api.Node) []string { return m.become(tree.Put(m.draft, w[0], n)) }
	switch op {
	case "new":
		return m.become(api.Node{Kind: api.Dir}, api.OK)
	case "file":
		return put(api.Node{Kind: api.File, Text: w[1]})
	case "exec":
		return put(api.Node{Kind: api.File, Text: w[1], Exec: true})
	case "link":
		return put(api.Node{Kind: api.Link, Text: w[1]})
	case "dir":
		return put(api.Node{Kind: api.Dir})
	case "cut":
		return m.become(tree.Cut(m.draft, w[0]))
	case "draft":
		return rowsTold("", m.draft, true)
	}
	return nil
}

// rowsTold: the rows of a tree, told as it is gone through.
func rowsTold(path string, n api.Node, whole bool) []string {
	var lines []string
	switch n.Kind {
	case api.File:
		letter := map[bool]string{true: "x", false: "f"}[n.Exec]
		lines = []string{fmt.Sprintf("%s %s %d", letter, shell.Escape(path), len(n.Text))}
	case api.Link:
		lines = []string{fmt.Sprintf("l %s %s", shell.Escape(path), shell.Escape(n.Text))}
	case api.Dir:
		lines = []string{"d " + shell.Escape(path)}
	}
	for _, e := range n.Kids {
		lines = append(lines, rowsTold(strings.TrimPrefix(path+"/"+e.Name, "/"), e.Node, false)...)
	}
	if whole {
		lines = append(lines, fmt.Sprintf("ok %d", len(lines)))
	}
	return lines
}

func (m *model) pathLine(op string, w []string) []string {
	switch op {
	case "add":
		refs := slices.Clone(w[1:])
		slices.Sort(refs)
		path, code := m.depot.Add(w[0], m.draft, refs)
		if code != api.OK {
			return refusedBy(code)
		}
		return []string{"ok " + path}
	case "load", "list", "cat":
		if !m.depot.Has(w[0]) {
			return refusedBy(api.ErrMissing)
		}
		m.used[w[0]]++
		r, _ := m.depot.Get(w[0])
		if op == "load" {
			return m.become(r.Tree, api.OK)
		}
		if op == "list" {
			return rowsTold("", r.Tree, true)
		}
		n, code := tree.Get(r.Tree, w[1])
		if code == api.OK && n.Kind != api.File {
			code = api.ErrNotFile
		}
		if code != api.OK {
			return refusedBy(code)
		}
		return []string{"ok " + shell.Escape(n.Text)}
	}
	return nil
}

func (m *model) askLine(op string, w []string) []string {
	tell := func(lines []string, code api.Errno) []string {
		if code != api.OK {
			return refusedBy(code)
		}
		return append(lines, fmt.Sprintf("ok %d", len(lines)))
	}
	switch op {
	case "drop":
		return coded(m.depot.Cut(w[0]))
	case "paths":
		return tell(m.depot.Paths(), api.OK)
	case "refs":
		return tell(m.depot.Refs(w[0]))
	case "users":
		return tell(m.depot.Referrers(w[0]))
	case "closure":
		return tell(m.depot.Closure(w))
	case "order":
		return tell(m.depot.Order(w))
	case "root":
		return coded(m.depot.SetRoot(w[0], w[1]))
	case "unroot":
		return coded(m.depot.DropRoot(w[0]))
	case "roots":
		var lines []string
		for _, r := range m.depot.Roots() {
			lines = append(lines, fmt.Sprint(r.Name, " ", r.Path))
		}
		return tell(lines, api.OK)
	case "collect":
		if !numeral.MatchString(w[0]) {
			return refusedBy(api.ErrArgs)
		}
		want, _ := strconv.Atoi(w[0])
		var uses []sweep.Use
		for _, path := range slices.Sorted(maps.Keys(m.used)) {
			uses = append(uses, sweep.Use{Path: path, Count: m.used[path]})
		}
		gone, gained := m.depot.Collect(uses, want)
		return append(gone, fmt.Sprintf("ok %d", gained))
	}
	return nil
}

func (m *model) recipeLine(op string, w []string) []string {
	switch op {
	case "recipe":
		texts := append(slices.Clone(m.texts), w[0])
		if _, fault := build.NewBook(texts); fault.Code != api.OK {
			return refusedBy(fault.Code)
		}
		m.texts = texts
		return []string{"ok " + nameForm.FindStringSubmatch(w[0])[1]}
	case "build":
		book, _ := build.NewBook(m.texts)
		s := m.depot.Store()
		made, err := book.Realise(s, w[0])
		var f *build.Failure
		if errors.As(err, &f) {
			return refusedBy(f.Code, shell.Escape(f.Name), f.Step)
		}
		var lines []string
		for _, one := range made {
			r, _ := s.Get(one.Path)
			if code := m.depot.Insert(r); code != api.OK {
				panic(fmt.Sprint("Insert: ", code))
			}
			lines = append(lines, one.Name+" "+one.Path)
		}
		return append(lines, fmt.Sprintf("ok %d", len(made)))
	case "export":
		stream, code := m.depot.Export(w)
		if code != api.OK {
			return refusedBy(code)
		}
		m.stream = stream
		return []string{fmt.Sprintf("ok %d %x", len(stream), sha256.Sum256([]byte(stream)))}
	case "import":
		fresh, fault := m.depot.Import(m.stream)
		if fault.Code != api.OK {
			return refusedBy(fault.Code)
		}
		return append(fresh, fmt.Sprintf("ok %d", len(fresh)))
	}
	return nil
}

func (m *model) unionLine(op string, w []string) []string {
	switch op {
	case "union":
		var parts []env.Part
		if len(w)%2 == 1 {
			return refusedBy(api.ErrArgs)
		}
		for i := 0; i < len(w); i += 2 {
			form := prioForm.FindStringSubmatch(w[i+1])
			if form == nil || len(form[1]+form[2]) > 9 {
				return refusedBy(api.ErrArgs)
			}
			if !m.depot.Has(w[i]) {
				return refusedBy(api.ErrMissing)
			}
			r, _ := m.depot.Get(w[i])
			prio, _ := strconv.ParseFloat(w[i+1], 64)
			parts = append(parts, env.Part{Tree: r.Tree, Prio: prio})
		}
		n, path, code := env.Union(parts)
		if code == api.ErrConflict {
			return refusedBy(code, shell.Escape(path))
		}
		return m.become(n, code)
	case "set":
		if !m.depot.Has(w[0]) {
			return refusedBy(api.ErrMissing)
		}
		n, _ := m.profile.Set(w[0])
		return []string{fmt.Sprintf("ok %d", n)}
	case "back":
		return coded(m.profile.Back())
	case "gens":
		var lines []string
		for _, g := range m.profile.All() {
			now, _ := m.profile.Current()
			lines = append(lines, fmt.Sprintf("%d%s%s", g.Number, map[bool]string{true: " * ", false: " "}[now.Number == g.Number], g.Path))
		}
		return append(lines, fmt.Sprintf("ok %d", len(lines)))
	}
	return nil
}

func (m *model) wholeLine(op string, w []string) []string {
	switch op {
	case "stat":
		p := pool.New()
		sum := 0
		for _, path := range m.depot.Paths() {
			r, _ := m.depot.Get(path)
			sum += r.Size
			p.PutTree(r.Tree)
		}
		c := p.Count()
		return []string{fmt.Sprintf("ok %d %d %d %d %d", len(m.depot.Paths()), sum, c.Texts, c.Unique, c.Total)}
	case "compact":
		m.depot.Compact()
		fallthrough
	case "save":
		return []string{fmt.Sprintf("ok %d", len(m.depot.Log()))}
	case "crash":
		if !numeral.MatchString(w[0]) {
			return refusedBy(api.ErrArgs)
		}
		size, _ := strconv.Atoi(w[0])
		if size > len(m.depot.Log()) {
			return refusedBy(api.ErrRange)
		}
		next, kept := newModel(m.depot.Log()[:size])
		*m = *next
		return []string{fmt.Sprintf("ok %d", kept)}
	}
	return nil
}

// talker makes lines of all commands, most of them near to right ones.
type talker struct {
	*rand.Rand
	m *model
}

func (k talker) one(list ...string) string { return list[k.Intn(len(list))] }

// path: a store path, mostly one that is there.
func (k talker) path() string {
	paths := k.m.depot.Paths()
	if len(paths) > 0 && k.Intn(10) > 0 {
		return paths[k.Intn(len(paths))]
	}
	return k.one(nowhere, "x", "%", "%20")
}

func (k talker) inner() string {
	return k.one("a", "b", "x", "d", "d/a", "d/b", "d/d", "d/d/a", "a/b", "%", "..", "d//a", "d/%25%20")
}

func (k talker) text() string { return k.one("%", "1", "2", "hello", "a%20b", "%00%ff", "%25") }

func (k talker) label() string { return k.one("a", "b", "c", "a", "b", "c", "%", ".x", "a%20b") }

func (k talker) numeral() string {
	size := len(k.m.depot.Log())
	return k.one("0", "1", "300", "600", "2000", number(k.Intn(size+1)), number(k.Intn(size+1)), number(size), number(size), number(size+1), "999999999", "01", "x", "-1", "1000000000")
}

func (k talker) prio() string {
	return k.one("0", "1", "2", "-1", "1.5", "0.5", "-0.5", "-0", "1.0", "10.25", "1.", "01", ".5", "x", "12345678.9", "123456789.0")
}

// recipe: a recipe's text, which may be wrong.
func (k talker) recipe() string {
	deps := k.one("", `"a"`, `"b"`, `"a","b"`, `"b","a"`, `"c"`)
	var steps []string
	for range k.Intn(3) {
		steps = append(steps, k.one(`("file","x","hello")`, `("exec","d","1")`, `("dir","d")`, `("path","a","ref")`, `("path","b","ref")`, `("copy","a","x","y")`, `("cut","x")`, `("join","x","x","y")`, `("what")`))
	}
	text := fmt.Sprintf(`Recipe("%s",[%s],[%s])`, k.one("a", "b", "c", "d", "e", "f", "a b"), deps, strings.Join(steps, ","))
	if k.Intn(20) == 0 {
		text = text[:k.Intn(len(text))]
	}
	return shell.Escape(text)
}

func (k talker) some(most int, word func() string) string {
	line := ""
	for range k.Intn(most + 1) {
		line += " " + word()
	}
	return line
}

func (k talker) pairs() string {
	return k.some(3, func() string { return k.path() + " " + k.prio() })
}

// line: a line of any command.
func (k talker) line() string {
	switch k.Intn(26) {
	case 0:
		return "new"
	case 1, 2, 3:
		return k.one("file ", "exec ", "link ") + k.inner() + " " + k.text()
	case 4, 5:
		return "dir " + k.inner()
	case 6:
		return "cut " + k.inner()
	case 7, 8, 9:
		return "add " + k.label() + k.some(2, k.path)
	case 10, 11:
		return k.one("load ", "list ", "drop ", "refs ", "users ") + k.path()
	case 12:
		return "cat " + k.path() + " " + k.inner()
	case 13:
		return k.one("closure", "order", "export") + k.some(3, k.path)
	case 14:
		return "root " + k.label() + " " + k.path()
	case 15:
		return "unroot " + k.label()
	case 16:
		return "collect " + k.numeral()
	case 17, 18:
		return "recipe " + k.recipe()
	case 19:
		return "build " + k.one("a", "b", "c", "d", "e", "f", "none", "a%20b", "%")
	case 20, 21:
		return "union" + k.pairs()
	case 22:
		return "set " + k.path()
	case 23:
		return k.one("back", "gens", "stat", "save", "compact", "roots", "paths", "draft", "import", "import")
	case 24:
		return k.one("crash "+k.numeral(), "save", "save", "save")
	}
	return k.garbled()
}

// garbled: a line with something wrong in it, perhaps.
func (k talker) garbled() string {
	words := []string{k.one("new", "file", "cat", "root", "back", "union", "crash", "collect", "what", "", "%", "import"), k.path(), k.inner(), k.prio()}
	return k.one("", " ") + strings.Join(words[:k.Intn(5)], k.one(" ", " ", " ", "  ")) + k.one("", "", " ", "%", "%2", "%FF")
}

func TestSessionsByTheModel(t *testing.T) { // P25.2 to P25.9
	taken, refused := map[string]int{}, map[string]int{}
	for seed := range int64(60) {
		s := shell.New()
		m, _ := newModel("")
		k := talker{rand.New(rand.NewSource(seed)), m}
		var text, told []string
		for range 400 {
			line := k.line()
			want := m.line(line)
			got := ask(s, line)
			if !slices.Equal(got, want) || s.Log() != m.depot.Log() {
				t.Fatalf("seed %d: %q: %q, not %q", seed, line, got, want)
			}
			name, _, _ := strings.Cut(line, " ")
			if strings.HasPrefix(got[0], "error") {
				refused[name]++
			} else {
				taken[name]++
			}
			text, told = append(text, line), append(told, got...)
		}
		if got := shell.Run(strings.Join(text, "\n")); got != strings.Join(told, "\n")+"\n" {
			t.Fatalf("seed %d: Run of the same lines differs", seed)
		}
		next, kept, fault := shell.Resume(s.Log())
		if next == nil || kept != len(s.Log()) || fault.Code != api.OK || next.Log() != s.Log() {
			t.Fatalf("seed %d: Resume: %d, %v", seed, kept, fault)
		}
		for _, line := range []string{"paths", "roots", "stat"} {
			hold(t, next, line, ask(s, line)...)
		}
	}
	for name, arity := range arities() {
		if taken[name] < 10 || arity[0] > 0 && refused[name] < 10 {
			t.Errorf("%s: only %d taken, %d refused", name, taken[name], refused[name])
		}
	}
}
