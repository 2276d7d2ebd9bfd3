package kiln_test

import (
	"math"
	"strings"
	"testing"

	"kiln/api"
)

// Tests of P5: New, Edit and Tick.

func TestNewTellsTheErrorOfRight(t *testing.T) {
	for _, rules := range [][]api.Rule{
		make([]api.Rule, 9),
		{rule("o", api.Join), rule("", api.Join)},
		{rule("o", api.Join, "A")},
		{rule("o", api.Join, "a", "a", "a", "a", "a")},
		{rule("o", 0)},
		{rule("o", 6)},
		{rule("o", api.Join), rule("o", api.Join)},
		{rule("o", api.Join), rule("p", api.Join, "q"), rule("q", api.Join, "p")},
	} {
		e, _ := plainRight(rules)
		wantNoKiln(t, rules, e)
	}
}

func TestNewTakesAllThatIsRight(t *testing.T) {
	for _, rules := range [][]api.Rule{nil, {}, exampleRules(), {rule("o", api.Count)}} {
		s := open(t, rules...)
		s.does(nothing, nothing)
		s.shows(0, nil)
	}
	var most []api.Rule
	for _, out := range letters(8) {
		most = append(most, rule(out, api.Count, "w", "x", "y", "z"))
	}
	open(t, most...).shows(0, nil)
}

func TestEditKnowsNames(t *testing.T) {
	s := open(t)
	for _, name := range names {
		s.edits(name, "", api.OK)
		s.edits(name, "thirteen byte", api.ErrText)
	}
	for _, text := range noNames {
		s.edits(text, "", api.ErrName)
		s.edits(text, "thirteen byte", api.ErrName)
	}
}

func TestEditMeasuresTexts(t *testing.T) {
	s := open(t, rule("o", api.Join, "a"))
	for _, text := range []string{"", "1", "twelve bytes", "\x00\xff", "\u00e4\u00e4\u00e4\u00e4\u00e4\u00e4"} {
		s.edit("a", text)
		s.builds("a")
		if set := s.Read(); set.Results[0] != fine("o", text) {
			t.Errorf("of the text %q was made %+v", text, set.Results)
		}
	}
	for _, text := range []string{"thirteen byte", "\u00e4\u00e4\u00e4\u00e4\u00e4\u00e4\u00e4", strings.Repeat("x", 100000)} {
		s.edits("a", text, api.ErrText)
		s.edits("b", text, api.ErrText)
	}
}

func TestEditCountsFiles(t *testing.T) {
	s := open(t, rule("o", api.Join, "a"), rule("p", api.Count, "m"))
	for _, name := range letters(12) {
		s.edit(name, "1")
	}
	s.edits("m", "1", api.ErrMany)
	s.edits("o", "1", api.ErrMany)
	s.edits("m", "thirteen byte", api.ErrText)
	s.edits("M", "1", api.ErrName)
	// One that is there may be edited still, and the thirteenth is still not there.
	s.edit("a", "2", "l", "2", "a", "3")
	s.edits("m", "1", api.ErrMany)
	s.builds("a", "m")
	s.shows(1, ran("o", "p"), fine("o", "3"), fine("p", "0"))
}

// An edit with an error is none: there is no event of it, no stamp, and no text.
func TestEditWithAnErrorChangesNothing(t *testing.T) {
	s := open(t, rule("o", api.Join, "a"), rule("p", api.Count, "m"))
	wrong := func() {
		t.Helper()
		s.edits("a", "thirteen byte", api.ErrText)
		s.edits("", "", api.ErrName)
		s.edits("aaaaa", "", api.ErrName)
	}
	wrong()
	s.does(nothing)
	for _, name := range letters(12) {
		s.edit(name, name)
	}
	wrongAndMany := func() {
		t.Helper()
		wrong()
		s.edits("m", "", api.ErrMany)
	}
	s.does(intake)
	wrongAndMany()
	s.does(nothing)
	s.tick(5)
	s.does(start, fetched("a"), fetched("m"))
	wrongAndMany()
	s.does(checked("a"))
	wrongAndMany()
	s.does(checked("m"), publish)
	wrongAndMany()
	s.does(nothing)
	s.shows(1, ran("o", "p"), fine("o", "a"), fine("p", "0"))
}

func TestTickTakesNumbersInItsBounds(t *testing.T) {
	s := open(t)
	for _, n := range []int{0, -1, 101, -100, 256 + 1, 1<<32 + 1, math.MaxInt, math.MinInt, math.MinInt + 1} {
		s.ticks(n, api.ErrArg)
	}
	for _, n := range []int{1, 2, 50, 99, 100} {
		s.tick(n)
	}
}

func TestTickComesToTheEndOfTime(t *testing.T) {
	s := open(t)
	for range 999 {
		s.tick(100)
	}
	s.tick(1)
	s.ticks(100, api.ErrArg)
	s.tick(98)
	s.ticks(2, api.ErrArg)
	s.ticks(3, api.ErrArg)
	s.tick(1)
	for _, n := range []int{1, 100, 0, 101, math.MaxInt} {
		s.ticks(n, api.ErrArg)
	}
	whole := open(t)
	for range 1000 {
		whole.tick(100)
	}
	whole.ticks(1, api.ErrArg)
}

// A Tick with an error is none: time doesn't go on by it.
func TestTickWithAnErrorChangesNothing(t *testing.T) {
	s := open(t)
	s.edit("a", "")
	s.does(intake)
	for _, n := range []int{0, 101, -5, math.MaxInt, math.MinInt} {
		s.ticks(n, api.ErrArg)
		s.does(nothing)
	}
	s.tick(4)
	s.ticks(200, api.ErrArg)
	s.does(nothing)
	s.tick(1)
	s.does(start)
}

// At the end of time there is quiet no more, but what has begun goes on.
func TestTheEndOfTime(t *testing.T) {
	s := open(t, rule("o", api.Join, "a"))
	for range 999 {
		s.tick(100)
	}
	s.tick(95)
	s.edit("a", "1")
	s.does(intake)
	s.tick(5)
	s.does(start, fetched("a"), checked("a"), publish)
	s.shows(1, ran("o"), fine("o", "1"))
	s.edit("a", "2")
	s.does(intake, nothing)
	s.ticks(1, api.ErrArg)
	s.does(nothing)
	s.shows(1, ran("o"), fine("o", "1"))
}
