package recipe

import (
	"slices"

	"depot/api"
	"depot/name"
	"depot/spath"
	"depot/tree"
)

// Check: the first thing wrong with a recipe, and where.
func Check(r Recipe) api.Fault {
	if code := spath.CheckLabel(r.Name); code != api.OK {
		return api.Fault{Code: code}
	}
	for i, dep := range r.Deps {
		if spath.CheckLabel(dep) != api.OK || i > 0 && dep <= r.Deps[i-1] {
			return api.Fault{Code: api.ErrRefs, At: i}
		}
	}
	checkers := checkersWith(r.Deps)
	for i, step := range r.Steps {
		if fits, known := checkers[step.Op]; !known || !fits(step.Args) {
			return api.Fault{Code: api.ErrStep, At: i}
		}
	}
	return api.Fault{}
}

// checkersWith: for each word of a step what its arguments must be, where the recipe has these dependencies, which rise.
func checkersWith(deps []string) map[string]func(args []string) bool {
	isDep := func(s string) bool {
		_, found := slices.BinarySearch(deps, s)
		return found
	}
	return map[string]func(args []string) bool{
		"file": takes(isEntry, isText),
		"exec": takes(isEntry, isText),
		"link": takes(isEntry, isTarget),
		"dir":  takes(isEntry),
		"cut":  takes(isEntry),
		"copy": takes(isDep, isPath, isEntry),
		"path": takes(isDep, isEntry),
		"join": takes(isEntry, isEntry, isEntry),
	}
}

// takes: the checker for just so many arguments, each of its kind.
func takes(kinds ...func(s string) bool) func(args []string) bool {
	return func(args []string) bool {
		if len(args) != len(kinds) {
			return false
		}
		for i, is := range kinds {
			if !is(args[i]) {
				return false
			}
		}
		return true
	}
}

// isText: every text is one.
func isText(string) bool { return true }

// isTarget: may a link have s as its target?
func isTarget(s string) bool { return tree.Target(s) == api.OK }

// isPath: is s a path, of no names too?
func isPath(s string) bool {
	_, fault := name.Split(s)
	return fault.Code == api.OK
}

// isEntry: is s a path of at least one name?
func isEntry(s string) bool { return s != "" && isPath(s) }
