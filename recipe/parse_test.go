package recipe_test

import (
	"errors"
	"math/rand"
	"strings"
	"testing"

	"depot/api"
	"depot/recipe"
)

const high = `Recipe("high",["low","x.y"],[("path","low","ref"),("copy","low","x","y\\\"\n\t"),("done")])`

func TestParse(t *testing.T) { // P21.4
	want := recipe.Recipe{Name: "high", Deps: []string{"low", "x.y"}, Steps: []recipe.Step{step("path", "low", "ref"), step("copy", "low", "x", "y\\\"\n\t"), step("done")}}
	if got, err := recipe.Parse(high); err != nil || !same(got, want) {
		t.Errorf("Parse = %v, %v", got, err)
	}
	if got, err := recipe.Parse(`Recipe("",[],[])`); err != nil || !same(got, recipe.Recipe{}) {
		t.Errorf("Parse = %v, %v", got, err)
	}
	if got, err := recipe.Parse(`Recipe("b",["c","a",""],[(""),("",""),("x","\\n")])`); err != nil || !same(got, recipe.Recipe{Name: "b", Deps: []string{"c", "a", ""}, Steps: []recipe.Step{step(""), step("", ""), step("x", "\\n")}}) {
		t.Errorf("Parse of a recipe that Check refuses = %v, %v", got, err)
	}
}

func TestParseRefuses(t *testing.T) { // P21.4
	rows := []struct {
		text string
		at   int
	}{
		{"", 0}, {"R", 1}, {"recipe", 0}, {" Recipe(", 0}, {"Recipe (", 6}, {"Recipe[", 6}, {"Recipe(", 7}, {"Recipe(x", 7}, {"Recipe()", 7},
		{`Recipe("a`, 9}, {`Recipe("a\`, 10}, {`Recipe("a\x`, 10}, {`Recipe("a\r`, 10}, {`Recipe("a\N`, 10}, {"Recipe(\"a\\\n", 10}, {"Recipe(\"a\\\t", 10}, {"Recipe(\"a\n", 9}, {"Recipe(\"a\t", 9}, {`Recipe("a\"`, 11},
		{`Recipe("a"`, 10}, {`Recipe("a")`, 10}, {`Recipe("a" `, 10}, {`Recipe("a",`, 11}, {`Recipe("a","`, 11}, {`Recipe("a", [`, 11},
		{`Recipe("a",[`, 12}, {`Recipe("a",[,`, 12}, {`Recipe("a",[b`, 12}, {`Recipe("a",["b"`, 15}, {`Recipe("a",["b" `, 15}, {`Recipe("a",["b",`, 16}, {`Recipe("a",["b",]`, 16}, {`Recipe("a",["b","c")`, 19}, {`Recipe("a",["b""c"`, 15},
		{`Recipe("a",[]`, 13}, {`Recipe("a",[])`, 13}, {`Recipe("a",[],`, 14}, {`Recipe("a",[],(`, 14}, {`Recipe("a",[],[`, 15}, {`Recipe("a",[],["x"`, 15}, {`Recipe("a",[],[,`, 15}, {`Recipe("a",[],[)`, 15},
		{`Recipe("a",[],[()])`, 16}, {`Recipe("a",[],[(x`, 16}, {`Recipe("a",[],[("x"`, 19}, {`Recipe("a",[],[("x"]`, 19}, {`Recipe("a",[],[("x",`, 20}, {`Recipe("a",[],[("x",)`, 20}, {`Recipe("a",[],[("x","y"]`, 23},
		{`Recipe("a",[],[("x")`, 20}, {`Recipe("a",[],[("x"))`, 20}, {`Recipe("a",[],[("x"),`, 21}, {`Recipe("a",[],[("x"),]`, 21}, {`Recipe("a",[],[("x")("y")])`, 20},
		{`Recipe("a",[],[]`, 16}, {`Recipe("a",[],[]]`, 16}, {`Recipe("a",[],[],`, 16}, {`Recipe("a",[],[]))`, 17}, {"Recipe(\"a\",[],[])\n", 17}, {`Recipe("a",[],[])Recipe(`, 17}, {"Recipe(\"a\",[],[])\x00", 17},
	}
	for _, row := range rows {
		r, err := recipe.Parse(row.text)
		f, is := err.(*api.Fault)
		if !is || *f != fault(api.ErrSyntax, row.at) || !same(r, recipe.Recipe{}) {
			t.Errorf("Parse(%q) = %v, %v, not at %d", row.text, r, err, row.at)
		}
		if !errors.Is(err, api.ErrSyntax) {
			t.Errorf("Parse(%q): the error doesn't wrap its code", row.text)
		}
		holdText(t, row.text)
	}
}

func TestParseOfChangedTexts(t *testing.T) { // P21.4: the end cut off; a byte changed, cut out, put in
	for at := range len(high) + 1 {
		if at < len(high) && firstBad(high[:at]) != at {
			t.Fatal("a beginning goes on")
		}
		holdText(t, high[:at])
		for i := range 256 {
			c := string([]byte{byte(i)})
			holdText(t, high[:at]+c)
			holdText(t, high[:at]+c+high[at:])
			if at < len(high) {
				holdText(t, high[:at]+c+high[at+1:])
			}
		}
		if at < len(high) {
			holdText(t, high[:at]+high[at+1:])
		}
	}
}

func TestParseOfAllShortEnds(t *testing.T) { // P21.4: all ends of up to three bytes that matter, behind each part of a recipe
	const letters = "\"\\,[]()nx\n"
	for _, beginning := range []string{`Recipe(`, `Recipe("`, `Recipe("\`, `Recipe("a"`, `Recipe("a",[`, `Recipe("a",["`, `Recipe("a",["b"`, `Recipe("a",["b",`, `Recipe("a",[]`, `Recipe("a",[],[`, `Recipe("a",[],[(`, `Recipe("a",[],[("x"`, `Recipe("a",[],[("x","`, `Recipe("a",[],[("x","y"`, `Recipe("a",[],[("x")`, `Recipe("a",[],[("x"),`, `Recipe("a",[],[]`, `Recipe("a",[],[])`} {
		ends := []string{""}
		for range 3 {
			var longer []string
			for _, end := range ends {
				holdText(t, beginning+end)
				for i := range len(letters) {
					longer = append(longer, end+letters[i:i+1])
				}
			}
			ends = longer
		}
		for _, end := range ends {
			holdText(t, beginning+end)
		}
	}
}

func TestParseOfRandom(t *testing.T) { // P21.2, P21.4: each recipe again from its text, whatever its texts are; and texts that are broken
	r := rand.New(rand.NewSource(4))
	right := 0
	for range 5000 {
		one := randomRecipe(r)
		text := recipe.Print(one)
		if text != printed(one) {
			t.Fatalf("Print(%v) = %s", one, text)
		}
		got, err := recipe.Parse(text)
		if err != nil || !same(got, one) {
			t.Fatalf("Parse(%q) = %v, %v", text, got, err)
		}
		b := []byte(text)
		for range r.Intn(3) {
			b[r.Intn(len(b))] = "\"\\,[]()nt\nab"[r.Intn(12)]
		}
		holdText(t, string(b))
		if firstBad(string(b)) < 0 {
			right++
		}
	}
	if right < 500 {
		t.Errorf("only %d texts were right", right)
	}
}

func TestParseOfMuch(t *testing.T) { // P21.4: many dependencies, steps and arguments, a long text
	one := recipe.Recipe{Name: strings.Repeat("\\", 100000)}
	for range 20000 {
		one.Deps = append(one.Deps, "d")
		one.Steps = append(one.Steps, step("s", "\n"))
	}
	one.Steps[0].Args = make([]string, 20000)
	text := recipe.Print(one)
	if text != printed(one) {
		t.Fatal("Print")
	}
	if got, err := recipe.Parse(text); err != nil || !same(got, one) {
		t.Errorf("Parse: %v", err)
	}
	if _, err := recipe.Parse(text[:len(text)-1]); err == nil || *err.(*api.Fault) != fault(api.ErrSyntax, len(text)-1) {
		t.Errorf("Parse without the last byte: %v", err)
	}
	deep := strings.Repeat("[", 60000)
	holdText(t, `Recipe("a",`+deep)
}
