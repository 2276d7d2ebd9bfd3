package build

import (
	"slices"
	"testing"

	"kiln/api"
	"kiln/recipe"
)

// Tests of what the section 'Ways' says of the order of rules and their sources, and of what is run.

func rule(out string, ins ...string) api.Rule {
	return api.Rule{Out: out, Recipe: api.Join, Ins: ins}
}

func TestEachRuleStandsBehindWhatItNeeds(t *testing.T) {
	for _, rules := range [][]api.Rule{
		nil,
		{rule("a")},
		{rule("a", "b"), rule("b", "c"), rule("c", "d"), rule("d", "e"), rule("e", "f"), rule("f", "g"), rule("g", "h"), rule("h", "x")},
		{rule("h", "g"), rule("g", "f"), rule("f", "e"), rule("e", "x"), rule("a", "h", "d"), rule("d", "c", "b"), rule("c", "b"), rule("b", "g")},
		{rule("b", "x", "a", "x"), rule("a", "x", "x", "x", "c"), rule("c", "d", "x", "d"), rule("d")},
	} {
		found := findLayout(rules)
		if len(found.order) != len(rules) || len(found.steps) != len(rules) {
			t.Fatalf("of %+v: the order %v, the steps %+v", rules, found.order, found.steps)
		}
		for at, number := range found.order {
			for _, in := range found.steps[number].ins {
				if in.isOut && !slices.Contains(found.order[:at], in.number) {
					t.Errorf("of %+v: in the order %v, %d is not behind %d", rules, found.order, number, in.number)
				}
			}
		}
	}
}

func TestTheLayoutIsFoundOutOnceWhenItIsAskedFor(t *testing.T) {
	b := New([]api.Rule{rule("o", "y", "x")})
	if b.plan.found.sources != nil {
		t.Errorf("found out ahead of being asked for: %+v", b.plan.found)
	}
	first := b.Sources()
	if !slices.Equal(first, []string{"x", "y"}) {
		t.Errorf("Sources() = %q", first)
	}
	b.plan.rules = nil
	first[0] = "z"
	if again := b.Sources(); !slices.Equal(again, []string{"x", "y"}) {
		t.Errorf("found out a second time: %q", again)
	}
}

// A rule that is not run keeps what it made; a mark in it shows that it was not made anew.
func TestWhatIsNotRunIsAsItWas(t *testing.T) {
	b := New([]api.Rule{rule("p", "o"), rule("o", "x"), rule("n")})
	one := []recipe.Value{{There: true, Text: "1"}}
	b.Build(one)
	for i := range b.runs {
		b.runs[i].made.Text += "!"
	}
	b.runs[2].ins[0].Text += "!"
	results, ran := b.Build(one)
	want := []api.Result{{Out: "n", Text: "!"}, {Out: "o", Text: "1!"}, {Out: "p", Text: "1!"}}
	if !slices.Equal(results, want) || len(ran) != 0 {
		t.Errorf("built a second time: %+v, %q run", results, ran)
	}
}
