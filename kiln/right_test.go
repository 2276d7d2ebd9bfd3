package kiln_test

import (
	"math"
	"testing"

	"kiln/api"
)

// Tests of P3.

func TestRightKnowsNames(t *testing.T) {
	for _, name := range names {
		wantRight(t, []api.Rule{rule(name, api.Join)}, api.OK, 0)
		wantRight(t, []api.Rule{rule("o", api.Join, "x", "x", "x", name)}, api.OK, 0)
	}
	for _, text := range noNames {
		wantRight(t, []api.Rule{rule(text, api.Join)}, api.ErrName, 0)
		wantRight(t, []api.Rule{rule("p", api.Join), rule(text, api.Join)}, api.ErrName, 1)
		for at := range api.MaxIns {
			ins := []string{"w", "x", "y", "z"}
			ins[at] = text
			wantRight(t, []api.Rule{rule("o", api.Join, ins...)}, api.ErrName, 0)
		}
	}
}

func TestRightCountsRules(t *testing.T) {
	var rules []api.Rule
	for _, name := range letters(9) {
		rules = append(rules, rule(name, api.Count))
	}
	wantRight(t, nil, api.OK, 0)
	wantRight(t, []api.Rule{}, api.OK, 0)
	wantRight(t, rules[:1], api.OK, 0)
	wantRight(t, rules[:8], api.OK, 0)
	wantRight(t, rules, api.ErrMany, 0)
	wantRight(t, make([]api.Rule, 100000), api.ErrMany, 0)

	// That there are too many comes ahead of all that is wrong with one.
	rules[0] = rule("", 0, "", "", "", "", "")
	wantRight(t, rules, api.ErrMany, 0)
	wantRight(t, rules[:8], api.ErrName, 0)
}

func TestRightCountsIns(t *testing.T) {
	for _, recipe := range []int{api.Join, api.Turn, api.Sum, api.Least, api.Count} {
		wantRight(t, []api.Rule{rule("o", recipe)}, api.OK, 0)
		wantRight(t, []api.Rule{rule("o", recipe, "a", "b", "c", "d")}, api.OK, 0)
		wantRight(t, []api.Rule{rule("o", recipe, "a", "b", "c", "d", "e")}, api.ErrMany, 0)
		wantRight(t, []api.Rule{rule("p", recipe), rule("o", recipe, "a", "a", "a", "a", "a")}, api.ErrMany, 1)
	}
	long := make([]string, 100000)
	wantRight(t, []api.Rule{rule("o", api.Join, long...)}, api.ErrName, 0)
	for i := range long {
		long[i] = "a"
	}
	wantRight(t, []api.Rule{rule("o", api.Join, long...)}, api.ErrMany, 0)
}

func TestRightKnowsRecipes(t *testing.T) {
	for recipe := api.Join; recipe <= api.Count; recipe++ {
		wantRight(t, []api.Rule{rule("o", recipe, "a")}, api.OK, 0)
	}
	for _, recipe := range []int{0, 6, -1, 256 + api.Join, math.MaxInt, math.MinInt, math.MinInt + 1} {
		wantRight(t, []api.Rule{rule("o", recipe, "a")}, api.ErrRecipe, 0)
		wantRight(t, []api.Rule{rule("p", api.Sum), rule("q", api.Sum), rule("o", recipe)}, api.ErrRecipe, 2)
	}
}

func TestRightSeesAnOutTwice(t *testing.T) {
	wantRight(t, []api.Rule{rule("a", api.Join), rule("a", api.Join)}, api.ErrTwice, 1)
	wantRight(t, []api.Rule{rule("a", api.Join), rule("b", api.Join), rule("c", api.Sum), rule("b", api.Turn, "x")}, api.ErrTwice, 3)
	wantRight(t, []api.Rule{rule("a", api.Join), rule("aa", api.Join), rule("aaa", api.Join), rule("ab", api.Join)}, api.OK, 0)
	wantRight(t, []api.Rule{rule("a", api.Join), rule("b", api.Join), rule("b", api.Join), rule("a", api.Join)}, api.ErrTwice, 2)
}

func TestRightTellsTheFirstErrorOfARule(t *testing.T) {
	ahead := rule("a", api.Join)
	for _, c := range []struct {
		rule api.Rule
		want api.Errno
	}{
		{rule("a", 0, "x", "x", "x", "x", "X"), api.ErrName},
		{rule("A", 0, "x", "x", "x", "x", "x"), api.ErrName},
		{rule("a", 0, ""), api.ErrName},
		{rule("a", 0, "x", "x", "x", "x", "x"), api.ErrMany},
		{rule("a", api.Join, "a", "x", "x", "x", "x"), api.ErrMany},
		{rule("a", 0, "x"), api.ErrRecipe},
		{rule("a", 6, "a"), api.ErrRecipe},
		{rule("a", api.Join, "a"), api.ErrTwice},
	} {
		wantRight(t, []api.Rule{ahead, c.rule}, c.want, 1)
	}
}

func TestRightTellsOfTheFirstRule(t *testing.T) {
	name, many, recipe := rule("", 1), rule("m", 1, "x", "x", "x", "x", "x"), rule("r", 0)
	first, twice := rule("a", 1), rule("a", 1)
	round := rule("o", 1, "o")
	wantRight(t, []api.Rule{first, twice, recipe, many, name}, api.ErrTwice, 1)
	wantRight(t, []api.Rule{first, recipe, many, name, twice}, api.ErrRecipe, 1)
	wantRight(t, []api.Rule{first, many, name, twice, recipe}, api.ErrMany, 1)
	wantRight(t, []api.Rule{first, name, twice, recipe, many}, api.ErrName, 1)
	for _, wrong := range []struct {
		rule api.Rule
		want api.Errno
	}{{name, api.ErrName}, {many, api.ErrMany}, {recipe, api.ErrRecipe}, {round, api.ErrTwice}} {
		wantRight(t, []api.Rule{round, first, wrong.rule}, wrong.want, 2)
	}
}

func TestRightSeesRounds(t *testing.T) {
	join := func(out string, ins ...string) api.Rule { return rule(out, api.Join, ins...) }
	for _, c := range []struct {
		what  string
		rules []api.Rule
		want  api.Errno
		at    int
	}{
		{"its own in", []api.Rule{join("a", "x", "x", "x", "a")}, api.ErrRound, 0},
		{"Count has rounds too", []api.Rule{join("b"), rule("a", api.Count, "a")}, api.ErrRound, 1},
		{"two", []api.Rule{join("a", "b"), join("b", "a")}, api.ErrRound, 0},
		{"led to from ahead", []api.Rule{join("a", "b"), join("b", "c"), join("c", "d"), join("d", "c")}, api.ErrRound, 2},
		{"led away from", []api.Rule{join("a"), join("c", "a", "c"), join("d", "c")}, api.ErrRound, 1},
		{"two rounds", []api.Rule{join("a", "c"), join("b", "d"), join("d", "b"), join("c", "c")}, api.ErrRound, 1},
		{"between two rounds", []api.Rule{join("m", "a"), join("a", "a"), join("b", "b", "m")}, api.ErrRound, 1},
		{"by a later in", []api.Rule{join("a", "x", "y", "b"), join("b", "z", "z", "z", "a")}, api.ErrRound, 0},
		{"a diamond", []api.Rule{join("a", "b", "c"), join("b", "d"), join("c", "d"), join("d", "x")}, api.OK, 0},
		{"an in twice", []api.Rule{join("a", "b", "b"), join("b", "x", "x")}, api.OK, 0},
		{"nearly the same name", []api.Rule{join("a", "aa"), join("aa", "aaa")}, api.OK, 0},
	} {
		t.Run(c.what, func(t *testing.T) { wantRight(t, c.rules, c.want, c.at) })
	}
}

// All eight in one round, in many orders: a search that goes one way only misses some of them.
func TestRightSeesLongRounds(t *testing.T) {
	for step := 1; step < 8; step += 2 {
		for start := range 8 {
			var open []api.Rule
			for i := range 8 {
				number := (start + i*step) % 8
				open = append(open, rule(letters(8)[number], api.Least, letters(9)[number+1]))
			}
			wantRight(t, open, api.OK, 0)
			for i := range open {
				if open[i].Out == "h" {
					open[i].Ins = []string{"a"}
				}
			}
			wantRight(t, open, api.ErrRound, 0)
		}
	}
}
