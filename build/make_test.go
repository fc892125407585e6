package build_test

import (
	"math/rand"
	"strings"
	"testing"

	"depot/api"
	"depot/build"
	"depot/recipe"
	"depot/tree"
)

const place = "/depot/store/0123456789abcdfghijklmnpqrsvwxyz-low"

// inputs: those that the recipes of the tests use.
func inputs() []build.Input {
	return []build.Input{
		{Name: "low", Path: place, Tree: dir(in("d", dir(in("x", exec("deep")))), in("e", exec("run")), in("l", link("t")), in("x", file("hello")))},
		{Name: "one", Path: "any text", Tree: file("whole")},
		{Name: "odd", Path: "", Tree: api.Node{Kind: 7}},
	}
}

func TestMake(t *testing.T) { // P22.3: each step
	rows := []struct {
		lines []string
		want  api.Node
	}{
		{nil, dir()},
		{[]string{"file x hello"}, dir(in("x", file("hello")))},
		{[]string{"file x %"}, dir(in("x", file("")))},
		{[]string{"exec x hello"}, dir(in("x", exec("hello")))},
		{[]string{"link x ../y"}, dir(in("x", link("../y")))},
		{[]string{"dir x"}, dir(in("x", dir()))},
		{[]string{"dir x", "dir x/y", "file x/y/z a"}, dir(in("x", dir(in("y", dir(in("z", file("a")))))))},
		{[]string{"file b 1", "file a 2", "file c 3"}, dir(in("a", file("2")), in("b", file("1")), in("c", file("3")))},
		{[]string{"file x a", "exec x b"}, dir(in("x", exec("b")))}, // in the place of what stood there
		{[]string{"dir x", "file x/y a", "dir x"}, dir(in("x", dir()))},
		{[]string{"dir x", "file x/y a", "link x y"}, dir(in("x", link("y")))},
		{[]string{"file x a", "cut x"}, dir()},
		{[]string{"dir x", "file x/y a", "file x/z b", "cut x/y"}, dir(in("x", dir(in("z", file("b")))))},
		{[]string{"copy low x y"}, dir(in("y", file("hello")))},
		{[]string{"copy low e y"}, dir(in("y", exec("run")))},
		{[]string{"copy low l y"}, dir(in("y", link("t")))},
		{[]string{"copy low d/x y"}, dir(in("y", exec("deep")))},
		{[]string{"copy low d y"}, dir(in("y", dir(in("x", exec("deep")))))},
		{[]string{"copy low % y"}, dir(in("y", inputs()[0].Tree))},
		{[]string{"copy one % y"}, dir(in("y", file("whole")))},
		{[]string{"path low ref"}, dir(in("ref", file(place)))},
		{[]string{"path one ref"}, dir(in("ref", file("any text")))},
		{[]string{"path odd ref"}, dir(in("ref", file("")))},
		{[]string{"file a 1", "file b 2", "join a b c"}, dir(in("a", file("1")), in("b", file("2")), in("c", file("12")))},
		{[]string{"exec a 1", "file b 2", "join a b c"}, dir(in("a", exec("1")), in("b", file("2")), in("c", exec("12")))},
		{[]string{"file a 1", "exec b 2", "join a b c"}, dir(in("a", file("1")), in("b", exec("2")), in("c", file("12")))},
		{[]string{"file a 1", "join a a a", "join a a a"}, dir(in("a", file("1111")))},
		{[]string{"file a %", "file b 2", "join a b b"}, dir(in("a", file("")), in("b", file("2")))},
		{[]string{"dir d", "file d/a 1", "path low d/b", "join d/a d/b c"}, dir(in("c", file("1"+place)), in("d", dir(in("a", file("1")), in("b", file(place)))))},
		{[]string{"file a 1", "dir c", "join a a c"}, dir(in("a", file("1")), in("c", file("11")))},
	}
	for _, row := range rows {
		r := of("a", "low odd one", row.lines...)
		if got, err := build.Make(r, inputs()); err != nil || !tree.Equal(got, row.want) {
			t.Errorf("%q: Make = %v, %v, not %v", row.lines, got, err, row.want)
		}
		holdMake(t, r, inputs())
	}
}

func TestMakeFails(t *testing.T) { // P22.3: the first step that can't be done
	rows := []struct {
		lines []string
		step  int
		code  api.Errno
	}{
		{[]string{"file x/y a"}, 0, api.ErrMissing},
		{[]string{"exec x/y a"}, 0, api.ErrMissing},
		{[]string{"link x/y a"}, 0, api.ErrMissing},
		{[]string{"dir x/y"}, 0, api.ErrMissing},
		{[]string{"path low x/y"}, 0, api.ErrMissing},
		{[]string{"copy low x x/y"}, 0, api.ErrMissing},
		{[]string{"file x a", "file x/y a"}, 1, api.ErrNotDir},
		{[]string{"link x a", "dir x/y"}, 1, api.ErrNotDir},
		{[]string{"file x a", "path low x/y"}, 1, api.ErrNotDir},
		{[]string{"file x a", "file y b", "join x y x/y"}, 2, api.ErrNotDir},
		{[]string{"dir x", "cut y"}, 1, api.ErrMissing},
		{[]string{"dir x", "cut x", "cut x"}, 2, api.ErrMissing},
		{[]string{"file x a", "cut x/y"}, 1, api.ErrNotDir},
		{[]string{"dir x", "cut x/y/z"}, 1, api.ErrMissing},
		{[]string{"copy low y z"}, 0, api.ErrMissing},
		{[]string{"copy low x/y z"}, 0, api.ErrNotDir},
		{[]string{"copy one x z"}, 0, api.ErrNotDir},
		{[]string{"copy odd % z"}, 0, api.ErrKind},
		{[]string{"copy low y z/z"}, 0, api.ErrMissing},
		{[]string{"file z a", "copy low y z/z"}, 1, api.ErrMissing}, // what is asked of the input comes first
		{[]string{"join a b c"}, 0, api.ErrMissing},
		{[]string{"file a x", "join a b c"}, 1, api.ErrMissing},
		{[]string{"file b x", "join a b c"}, 1, api.ErrMissing},
		{[]string{"dir a", "join a b c"}, 1, api.ErrMissing}, // both are asked for first
		{[]string{"file b x", "join a b/c c"}, 1, api.ErrMissing},
		{[]string{"file b x", "join b/c a c"}, 1, api.ErrNotDir},
		{[]string{"dir a", "file b x", "join a b c"}, 2, api.ErrNotFile},
		{[]string{"dir a", "file b x", "join b a c"}, 2, api.ErrNotFile},
		{[]string{"link a b", "file b x", "join a b c"}, 2, api.ErrNotFile},
		{[]string{"file a b", "link b a", "join a b c"}, 2, api.ErrNotFile},
		{[]string{"dir a", "join a a x/y"}, 1, api.ErrNotFile},
		{[]string{"file a b", "join a a x/y"}, 1, api.ErrMissing},
		{[]string{"file a b", "cut b", "cut b", "join x y z"}, 1, api.ErrMissing},
	}
	for _, row := range rows {
		r := of("a", "low odd one", row.lines...)
		n, err := build.Make(r, inputs())
		holdFailure(t, err, build.Failure{Name: "a", Step: row.step, Code: row.code})
		if !tree.Equal(n, api.Node{}) {
			t.Errorf("%q: %v beside %v", row.lines, n, err)
		}
		holdMake(t, r, inputs())
	}
}

func TestMakeRefuses(t *testing.T) { // P22.3: recipe.Check's code, then a dependency without an input, both ahead of all steps
	rows := []struct {
		r    recipe.Recipe
		code api.Errno
	}{
		{of("", "", "cut x"), api.ErrName},
		{of(".a", "none"), api.ErrName},
		{of("a b", "z a", "x"), api.ErrName},
		{of("a", "low low", "cut x"), api.ErrRefs},
		{of("a", "none low", "x"), api.ErrRefs},
		{of("a", "", "copy low x y"), api.ErrStep}, // an input, but no dependency
		{of("a", "none", "cut x", "file x"), api.ErrStep},
		{of("a", "low", "dir x", "dir %"), api.ErrStep},
		{of("a", "none"), api.ErrMissing},
		{of("a", "low none", "cut x"), api.ErrMissing},
		{of("a", "LOW low", "cut x"), api.ErrMissing},
		{of("a", "a low one"), api.ErrMissing},
	}
	for _, row := range rows {
		_, err := build.Make(row.r, inputs())
		holdFailure(t, err, build.Failure{Name: row.r.Name, Step: -1, Code: row.code})
		holdMake(t, row.r, inputs())
	}
	_, err := build.Make(of("a", "low"), nil)
	holdFailure(t, err, build.Failure{Name: "a", Step: -1, Code: api.ErrMissing})
	_, err = build.Make(of("a", "low"), []build.Input{{}, {Name: "lo"}, {Name: "low "}, {Path: "low"}})
	holdFailure(t, err, build.Failure{Name: "a", Step: -1, Code: api.ErrMissing})
}

func TestMakeWithInputsTwice(t *testing.T) { // P22.3: the first of a name counts, the others may be anything
	list := []build.Input{
		{Name: "", Path: "empty", Tree: file("empty")},
		{Name: "low", Path: "first", Tree: file("1")},
		{Name: "not used", Tree: nested(100, api.Node{})},
		{Name: "low", Path: "second", Tree: file("2")},
		{Name: "low", Path: "third", Tree: api.Node{}},
	}
	r := of("a", "low", "copy low % x", "path low y")
	if got, err := build.Make(r, list); err != nil || !tree.Equal(got, dir(in("x", file("1")), in("y", file("first")))) {
		t.Errorf("Make = %v, %v", got, err)
	}
	holdMake(t, r, list)
	holdMake(t, of("a", "low", "path low y"), list[3:])
	holdMake(t, of("a", "low", "copy low % y"), list[4:])
}

func TestMakeOfInputsThatAreNotWellFormed(t *testing.T) { // P22.3, P1: tree.Get's error, at the step that uses the tree
	for _, n := range []api.Node{{}, {Kind: -1}, link(""), dir(in("b", file("")), in("a", file(""))), dir(in("x/y", file(""))), {Kind: api.File, Kids: []api.Entry{{}}}, nested(32, file("")), file(strings.Repeat("x", api.MaxArchive))} {
		list := []build.Input{{Name: "b", Path: "p", Tree: n}}
		_, code := tree.Get(n, "")
		_, err := build.Make(of("a", "b", "dir x", "path b y", "copy b % z"), list)
		holdFailure(t, err, build.Failure{Name: "a", Step: 2, Code: code})
		holdMake(t, of("a", "b", "dir x", "path b y"), list)
	}
}

func TestMakeAtTheEdges(t *testing.T) { // P22.3: trees too deep, too large
	deep := []build.Input{{Name: "b", Tree: nested(30, file("x"))}}
	holdMake(t, of("a", "b", "copy b % x"), deep)
	_, err := build.Make(of("a", "b", "dir x", "copy b % x/y"), deep)
	holdFailure(t, err, build.Failure{Name: "a", Step: 1, Code: api.ErrDeep})
	path := "n"
	lines := []string{"dir n"}
	for range 30 {
		path += "/n"
		lines = append(lines, "dir "+path)
	}
	holdMake(t, of("a", "", lines...), nil)
	_, err = build.Make(of("a", "", append(lines, "dir "+path+"/n")...), nil)
	holdFailure(t, err, build.Failure{Name: "a", Step: -1, Code: api.ErrStep})

	room := api.MaxArchive - 288 + 8 // the contents of the one file of a tree of MaxArchive bytes
	half := recipe.Recipe{Name: "a", Steps: []recipe.Step{{Op: "file", Args: []string{"x", strings.Repeat("x", room/2)}}, {Op: "join", Args: []string{"x", "x", "x"}}}}
	if n, err := build.Make(half, nil); err != nil || len(n.Kids[0].Node.Text) != room {
		t.Errorf("Make: %v", err)
	}
	half.Steps = append(half.Steps, steps("file x %", "dir d", "cut d", "file x/y z")...)
	holdMake(t, half, nil)
	over := recipe.Recipe{Name: "a", Steps: []recipe.Step{{Op: "file", Args: []string{"x", strings.Repeat("x", room/2+1)}}, {Op: "join", Args: []string{"x", "x", "x"}}}}
	_, err = build.Make(over, nil)
	holdFailure(t, err, build.Failure{Name: "a", Step: 1, Code: api.ErrBig})
	_, err = build.Make(of("a", "b", "path b y"), []build.Input{{Name: "b", Path: strings.Repeat("p", room+1)}})
	holdFailure(t, err, build.Failure{Name: "a", Step: 0, Code: api.ErrBig})
	holdMake(t, of("a", "b", "path b y"), []build.Input{{Name: "b", Path: strings.Repeat("p", room)}})
}

func TestMakeOfRandom(t *testing.T) { // P22.3
	r := rand.New(rand.NewSource(2))
	right := 0
	for range 20000 {
		one := recipe.Recipe{Name: "a", Deps: []string{"b", "c"}}
		one.Steps = randomSteps(r, one.Deps, 6)
		n, _ := build.Make(recipe.Recipe{Name: "x", Steps: randomSteps(r, nil, 4)}, nil)
		list := []build.Input{{Name: "c", Path: "the path of c", Tree: dir(in("a", file("c")), in("d", dir(in("b", exec("c")))))}, {Name: "b", Path: place, Tree: n}}
		holdMake(t, one, list)
		if _, failure := made(one, list); failure == nil {
			right++
		}
	}
	if right < 2000 {
		t.Errorf("only %d recipes were done to their ends", right)
	}
}
