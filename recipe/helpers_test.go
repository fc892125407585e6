package recipe_test

import (
	"errors"
	"math/rand"
	"reflect"
	"regexp"
	"slices"
	"strings"
	"testing"

	"depot/api"
	"depot/recipe"
)

func step(op string, args ...string) recipe.Step { return recipe.Step{Op: op, Args: args} }

func fault(code api.Errno, at int) api.Fault { return api.Fault{Code: code, At: at} }

// names: a path of so many names.
func names(n int) string { return strings.TrimSuffix(strings.Repeat("n/", n), "/") }

// The forms are a second reading of what P21.1 asks of labels, paths and targets.
var (
	labelForm  = regexp.MustCompile(`(?s)\A[A-Za-z0-9+\-_?=][A-Za-z0-9+\-._?=]{0,210}\z`)
	targetForm = regexp.MustCompile(`(?s)\A[^\x00]+\z`)
)

func isEntry(s string) bool {
	parts := strings.Split(s, "/")
	for _, part := range parts {
		if part == "" || part == "." || part == ".." || len(part) > 255 || strings.Contains(part, "\x00") {
			return false
		}
	}
	return len(parts) <= 31
}

// fits: may a recipe with these dependencies have the step?
func fits(s recipe.Step, deps []string) bool {
	forms := strings.Fields("file/PT exec/PT link/PL dir/P cut/P copy/DFP path/DP join/PPP")
	for _, form := range forms {
		op, kinds, _ := strings.Cut(form, "/")
		if op != s.Op || len(kinds) != len(s.Args) {
			continue
		}
		right := true
		for i, arg := range s.Args {
			switch kinds[i] {
			case 'P':
				right = right && isEntry(arg)
			case 'F':
				right = right && (arg == "" || isEntry(arg))
			case 'L':
				right = right && targetForm.MatchString(arg)
			case 'D':
				right = right && slices.Contains(deps, arg)
			}
		}
		return right
	}
	return false
}

// checked is a second reading of P21.1.
func checked(r recipe.Recipe) api.Fault {
	if !labelForm.MatchString(r.Name) {
		return fault(api.ErrName, 0)
	}
	for i := range r.Deps {
		if !labelForm.MatchString(r.Deps[i]) || i > 0 && r.Deps[i-1] >= r.Deps[i] {
			return fault(api.ErrRefs, i)
		}
	}
	for i, s := range r.Steps {
		if !fits(s, r.Deps) {
			return fault(api.ErrStep, i)
		}
	}
	return api.Fault{}
}

// quoted and printed are a second reading of P21.2.
func quoted(list ...string) string {
	replacer := strings.NewReplacer("\\", `\\`, "\"", `\"`, "\n", `\n`, "\t", `\t`)
	parts := make([]string, len(list))
	for i, s := range list {
		parts[i] = `"` + replacer.Replace(s) + `"`
	}
	return strings.Join(parts, ",")
}

func printed(r recipe.Recipe) string {
	steps := make([]string, len(r.Steps))
	for i, s := range r.Steps {
		steps[i] = "(" + quoted(append([]string{s.Op}, s.Args...)...) + ")"
	}
	return "Recipe(" + quoted(r.Name) + ",[" + quoted(r.Deps...) + "],[" + strings.Join(steps, ",") + "])"
}

// moves: in which state a recipe's text is behind each byte that it may go on with; within quotes see move.
var moves = map[string]string{
	"begin R": "R", "R e": "Re", "Re c": "Rec", "Rec i": "Reci", "Reci p": "Recip", "Recip e": "Recipe", "Recipe (": "name",
	"name \"": "name in", "name out ,": "deps", "deps [": "first dep",
	"first dep \"": "dep in", "first dep ]": "deps end", "dep out ,": "dep", "dep out ]": "deps end", "dep \"": "dep in",
	"deps end ,": "steps", "steps [": "first step",
	"first step (": "op", "first step ]": "steps end", "op \"": "op in",
	"op out ,": "arg", "op out )": "step end", "arg \"": "arg in", "arg out ,": "arg", "arg out )": "step end",
	"step end ,": "step", "step end ]": "steps end", "step (": "op", "steps end )": "end",
}

// move: the state behind one byte more; "" where the text can't go on so.
func move(state string, c byte) string {
	if what, within := strings.CutSuffix(state, " in"); within {
		switch c {
		case '"':
			return what + " out"
		case '\\':
			return what + " escape"
		case '\n', '\t':
			return ""
		}
		return state
	}
	if what, behind := strings.CutSuffix(state, " escape"); behind {
		if strings.Contains(`"\nt`, string(rune(c))) {
			return what + " in"
		}
		return ""
	}
	return moves[state+" "+string(rune(c))]
}

// firstBad: the place of P21.4; -1 where the text is a recipe's.
func firstBad(text string) int {
	state := "begin"
	for i := range len(text) {
		if state = move(state, text[i]); state == "" {
			return i
		}
	}
	if state == "end" {
		return -1
	}
	return len(text)
}

// plain: an empty list is nil, so that reflect finds the same what is the same.
func plain(r recipe.Recipe) recipe.Recipe {
	r.Deps = slices.Concat([]string(nil), r.Deps)
	steps := slices.Concat([]recipe.Step(nil), r.Steps)
	for i := range steps {
		steps[i].Args = slices.Concat([]string(nil), steps[i].Args)
	}
	r.Steps = steps
	return r
}

func same(a, b recipe.Recipe) bool { return reflect.DeepEqual(plain(a), plain(b)) }

// scribble writes over all memory that can be reached from a recipe, spare room too.
func scribble(r recipe.Recipe) {
	steps := r.Steps[:cap(r.Steps)]
	for i := range steps {
		scribbleList(steps[i].Args)
		steps[i] = step("scribbled", "scribbled")
	}
	scribbleList(r.Deps)
}

func scribbleList(list []string) {
	list = list[:cap(list)]
	for i := range list {
		list[i] = "scribbled"
	}
}

// holdText: Parse of the text answers what the states say, twice, though the first answer is written over.
func holdText(t *testing.T, text string) {
	t.Helper()
	want := firstBad(text)
	for range 2 {
		r, err := recipe.Parse(text)
		if want < 0 {
			if err != nil || printed(r) != text {
				t.Fatalf("Parse(%q) = %v, %v", text, r, err)
			}
			scribble(r)
			continue
		}
		var f *api.Fault
		if !same(r, recipe.Recipe{}) || !errors.As(err, &f) || *f != fault(api.ErrSyntax, want) {
			t.Fatalf("Parse(%q) = %v, %v, not %d", text, r, err, want)
		}
		if err != error(f) {
			t.Fatalf("Parse(%q): the error is a %T", text, err)
		}
		*f = api.Fault{}
	}
}

// randomText: few bytes, among them those that have a meaning.
func randomText(r *rand.Rand) string {
	const bytes = "\"\\\n\tnt,[]()ab\x00\xff\xc3 Recipe("
	b := make([]byte, r.Intn(6))
	for i := range b {
		b[i] = bytes[r.Intn(len(bytes))]
	}
	return string(b)
}

// randomRecipe: of any texts.
func randomRecipe(r *rand.Rand) recipe.Recipe {
	got := recipe.Recipe{Name: randomText(r)}
	for range r.Intn(4) {
		got.Deps = append(got.Deps, randomText(r))
	}
	for range r.Intn(4) {
		s := step(randomText(r))
		for range r.Intn(4) {
			s.Args = append(s.Args, randomText(r))
		}
		got.Steps = append(got.Steps, s)
	}
	return got
}

// randomRight: a recipe that is right more often than not.
func randomRight(r *rand.Rand) recipe.Recipe {
	got := recipe.Recipe{Name: pick(r, 40, []string{"a", "high", "x.y"}, []string{"", ".", "a/b"})}
	for _, dep := range []string{"a", "b", "c.d", "e"} {
		if r.Intn(2) == 0 {
			got.Deps = append(got.Deps, pick(r, 40, []string{dep}, []string{"", ".", "a", "b"}))
		}
	}
	for range r.Intn(4) {
		s := step(pick(r, 40, []string{"file", "exec", "link", "dir", "cut", "copy", "path", "join"}, []string{"", "Dir", "move"}))
		count := map[string]int{"dir": 1, "cut": 1, "copy": 3, "join": 3}[s.Op]
		if count == 0 {
			count = 2
		}
		if r.Intn(20) == 0 {
			count += r.Intn(3) - 1
		}
		for range count {
			s.Args = append(s.Args, pick(r, 12, []string{"a", "b", "e", "c.d"}, []string{"", "x/y", "x//y", "..", "x\x00", names(31), names(32)}))
		}
		got.Steps = append(got.Steps, s)
	}
	return got
}

// pick: one of the right ones, once in so many times one of the wrong ones.
func pick(r *rand.Rand, times int, right, wrong []string) string {
	if r.Intn(times) == 0 {
		return wrong[r.Intn(len(wrong))]
	}
	return right[r.Intn(len(right))]
}
