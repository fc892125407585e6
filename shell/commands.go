package shell

import "depot/api"

// many: more words than any line has.
const many = api.MaxLine

// command is what a line's first word stands for.
type command struct {
	least, most int // of the words behind it
	run         func(s *Session, words []string) ([]string, error)
}

// commands: all of them, under their words.
func commands() map[string]command {
	return map[string]command{
		"new": {0, 0, (*Session).renew},
		"file": {2, 2, func(s *Session, w []string) ([]string, error) {
			return s.put(w[0], api.Node{Kind: api.File, Text: w[1]})
		}},
		"exec": {2, 2, func(s *Session, w []string) ([]string, error) {
			return s.put(w[0], api.Node{Kind: api.File, Exec: true, Text: w[1]})
		}},
		"link": {2, 2, func(s *Session, w []string) ([]string, error) {
			return s.put(w[0], api.Node{Kind: api.Link, Text: w[1]})
		}},
		"dir":   {1, 1, func(s *Session, w []string) ([]string, error) { return s.put(w[0], api.Node{Kind: api.Dir}) }},
		"cut":   {1, 1, (*Session).cut},
		"draft": {0, 0, func(s *Session, _ []string) ([]string, error) { return rowsOf(s.draft) }},

		"add":     {1, many, (*Session).add},
		"load":    {1, 1, (*Session).load},
		"list":    {1, 1, (*Session).list},
		"cat":     {2, 2, (*Session).cat},
		"drop":    {1, 1, func(s *Session, w []string) ([]string, error) { return done(s.depot.Cut(w[0])) }},
		"paths":   {0, 0, func(s *Session, _ []string) ([]string, error) { return listed(s.depot.Paths(), api.OK) }},
		"refs":    {1, 1, func(s *Session, w []string) ([]string, error) { return listed(s.depot.Refs(w[0])) }},
		"users":   {1, 1, func(s *Session, w []string) ([]string, error) { return listed(s.depot.Referrers(w[0])) }},
		"closure": {0, many, func(s *Session, w []string) ([]string, error) { return listed(s.depot.Closure(w)) }},
		"order":   {0, many, func(s *Session, w []string) ([]string, error) { return listed(s.depot.Order(w)) }},

		"root":    {2, 2, func(s *Session, w []string) ([]string, error) { return done(s.depot.SetRoot(w[0], w[1])) }},
		"unroot":  {1, 1, func(s *Session, w []string) ([]string, error) { return done(s.depot.DropRoot(w[0])) }},
		"roots":   {0, 0, (*Session).roots},
		"collect": {1, 1, (*Session).collect},

		"recipe": {1, 1, (*Session).recipe},
		"build":  {1, 1, (*Session).build},

		"export": {0, many, (*Session).export},
		"import": {0, 0, (*Session).takeStream},

		"union": {2, many, (*Session).union},
		"set":   {1, 1, (*Session).set},
		"back":  {0, 0, func(s *Session, _ []string) ([]string, error) { return done(s.profile.Back()) }},
		"gens":  {0, 0, (*Session).gens},

		"stat":    {0, 0, (*Session).stat},
		"save":    {0, 0, (*Session).save},
		"compact": {0, 0, (*Session).compact},
		"crash":   {1, 1, (*Session).crash},
	}
}
