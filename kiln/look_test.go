package kiln_test

import (
	"slices"
	"strings"
	"testing"

	"kiln/api"
)

// Tests of Look of P7, and of what P1 and P2 say of it.

func TestLookAtANewKiln(t *testing.T) {
	for _, rules := range [][]api.Rule{nil, exampleRules(), {rule("o", api.Count)}} {
		s := open(t, rules...)
		s.looks(idle(0))
		s.does(nothing)
		s.looks(idle(0))
	}
}

func TestLookTellsPhaseTimeAndSince(t *testing.T) {
	s := open(t, rule("o", api.Join, "b", "a"))
	steps := func(did api.Did, want api.Look) {
		t.Helper()
		s.does(did)
		s.looks(want)
	}
	s.tick(3)
	s.looks(idle(3))
	s.edit("a", "")
	steps(intake, waiting(3, 3))
	s.tick(2)
	s.looks(waiting(5, 3))
	steps(nothing, waiting(5, 3))
	s.edit("a", "")
	s.looks(with(waiting(5, 3), "a"))
	steps(intake, waiting(5, 5)) // waiting anew
	s.tick(6)
	s.looks(waiting(11, 5))
	steps(start, reading(11))
	s.tick(1)
	s.looks(reading(12))
	steps(fetched("a"), reading(12))
	steps(fetched("b"), reading(12)) // all were read, and yet none is checked
	steps(checked("a"), checking(12))
	s.tick(1)
	s.looks(checking(13))
	steps(checked("b"), checking(13)) // all were checked, and yet nothing is published
	steps(publish, idle(13))
	s.tick(100)
	steps(nothing, idle(113))
}

func TestLookAheadOfAndBehindAnIntake(t *testing.T) {
	s := open(t, rule("o", api.Join, "a"))
	s.tick(7)
	s.edit("b", "", "a", "")
	s.looks(with(idle(7), "b", "a"))
	s.does(intake)
	s.looks(waiting(7, 7))
	s.edit("a", "", "c", "")
	s.tick(1)
	s.looks(with(waiting(8, 7), "a", "c"))
	s.does(intake)
	s.looks(waiting(8, 8))
	s.edit("a", "", "b", "", "c", "", "d", "", "e", "")
	s.tick(5)
	s.looks(withLost(waiting(13, 8), "a", "b", "c", "d"))
	s.does(intake)
	s.looks(waiting(13, 13))
}

// What was taken in by an Intake waits anew when it is edited anew; a build takes no events in.
func TestLookAheadOfAndBehindABuild(t *testing.T) {
	s := open(t, rule("o", api.Join, "a", "b"))
	s.edit("b", "")
	s.does(intake)
	s.tick(5)
	s.looks(waiting(5, 0))
	s.does(start)
	s.looks(reading(5))
	s.edit("c", "", "b", "")
	s.looks(with(reading(5), "c", "b"))
	s.does(fetched("a"), fetched("b"))
	s.edit("d", "", "b", "", "a", "")
	s.looks(with(reading(5), "c", "b", "d", "a"))
	s.tick(3)
	s.does(abandoned("a"))
	s.looks(with(waiting(8, 8), "c", "b", "d", "a"))
	s.edit("e", "")
	s.looks(withLost(waiting(8, 8), "c", "b", "d", "a"))
	s.tick(9)
	s.does(intake)
	s.looks(waiting(17, 17))
	s.tick(5)
	s.does(start, fetched("a"), fetched("b"), checked("a"))
	s.edit("a", "1", "e", "", "c", "", "d", "")
	s.remove("b")
	s.tick(2)
	s.looks(withLost(checking(24), "a", "e", "c", "d"))
	s.does(abandoned("b"))
	s.looks(withLost(waiting(24, 24), "a", "e", "c", "d"))
	s.begins()
	s.does(fetched("a"), fetched("b"), checked("a"), checked("b"))
	s.edit("a", "1", "q", "")
	s.looks(with(checking(29), "a", "q"))
	s.tick(4)
	s.does(publish)
	s.looks(with(idle(33), "a", "q"))
	s.does(intake)
	s.looks(waiting(33, 33))
	s.tick(5)
	s.does(start, fetched("a"), fetched("b"), checked("a"), checked("b"))
	s.edit("a", "", "c", "", "d", "", "e", "", "q", "")
	s.does(publish)
	s.looks(withLost(idle(38), "a", "c", "d", "e"))
}

func TestLookWhereThereAreNoSources(t *testing.T) {
	s := open(t)
	s.edit("a", "")
	s.begins()
	s.looks(reading(5))
	s.edit("a", "")
	s.does(publish)
	s.looks(with(idle(5), "a"))
}

func TestLookTellsEventsInOrder(t *testing.T) {
	for _, c := range []struct {
		edits, events string
		lost          bool
	}{
		{"a", "a", false},
		{"a a", "a", false},
		{"b a", "b a", false},
		{"zzzz b a b", "zzzz b a", false},
		{"d c b a", "d c b a", false},
		{"d c b a a b c d", "d c b a", false},
		{"d d c c b b a a", "d c b a", false},
		{"d c b a e", "d c b a", true},
		{"d c b a e d", "d c b a", true},
		{"d c b a e f g h i j k l", "d c b a", true},
		{"aaaa aaa aa a aaaa", "aaaa aaa aa a", false},
	} {
		s := open(t, exampleRules()...)
		for _, name := range strings.Fields(c.edits) {
			s.edit(name, "")
		}
		want := api.Look{Events: strings.Fields(c.events), Lost: c.lost}
		s.looks(want)
		s.does(intake)
		s.looks(waiting(0, 0))
		for _, name := range strings.Fields(c.edits) {
			s.remove(name)
			s.edit(name, "")
		}
		want.Phase = api.Waiting
		s.looks(want)
	}
}

func TestLookAtTheEndOfTime(t *testing.T) {
	s := open(t)
	for range 1000 {
		s.tick(100)
	}
	s.looks(idle(100000))
	s.ticks(1, api.ErrArg)
	s.edit("a", "")
	s.does(intake, nothing)
	s.looks(waiting(100000, 100000))
}

// Calls with an error are not seen by Look: P1.
func TestLookBehindErrors(t *testing.T) {
	s := open(t, rule("o", api.Join, "a"))
	for _, name := range letters(12) {
		s.edit(name, "")
	}
	s.does(intake)
	wrong := func(want api.Look) {
		t.Helper()
		s.edits("", "", api.ErrName)
		s.edits("a", "thirteen byte", api.ErrText)
		s.edits("m", "", api.ErrMany)
		s.removes("A", api.ErrName)
		s.removes("m", api.ErrNone)
		s.ticks(0, api.ErrArg)
		s.ticks(101, api.ErrArg)
		s.looks(want)
	}
	wrong(waiting(0, 0))
	s.edit("d", "", "c", "", "b", "", "a", "")
	wrong(with(waiting(0, 0), "d", "c", "b", "a"))
	s.begins()
	wrong(reading(5))
	s.does(fetched("a"), checked("a"))
	wrong(checking(5))
	s.does(publish)
	wrong(idle(5))
}

func TestALookIsTheCallers(t *testing.T) {
	s := open(t, exampleRules()...)
	none := s.Look()
	s.edit("b", "", "a", "")
	kept := s.Look()
	for range 3 {
		spoil(s.Look().Events, "z")
		s.looks(with(idle(0), "b", "a"))
	}
	// What is written into spare room is not met by a later event, nor the other way round.
	_ = append(s.Look().Events, "y", "y")
	s.edit("c", "")
	s.looks(with(idle(0), "b", "a", "c"))
	longer := append(s.Look().Events, "x")
	s.edit("d", "")
	s.looks(with(idle(0), "b", "a", "c", "d"))
	if !slices.Equal(longer, []string{"b", "a", "c", "x"}) {
		t.Errorf("a list of the caller's was changed: %q", longer)
	}
	spoil(s.Look().Events, "a") // names that a spoilt queue would take for waiting ones
	s.edit("e", "")
	s.looks(withLost(idle(0), "b", "a", "c", "d"))
	s.does(intake)
	s.edit("q", "")
	s.looks(with(waiting(0, 0), "q"))
	if !slices.Equal(kept.Events, []string{"b", "a"}) || len(none.Events) != 0 {
		t.Errorf("what was told ahead of later calls was changed: %q, %q", kept.Events, none.Events)
	}
}

// Of two kilns that are worked alike, one is looked at all the time: both come to the same.
func TestReadAndLookChangeNothing(t *testing.T) {
	seen, left := open(t, exampleRules()...), open(t, exampleRules()...)
	both := func(call func(shop)) {
		t.Helper()
		call(left)
		for range 2 {
			look, set := seen.Look(), seen.Read()
			spoil(look.Events, "z")
			spoil(set.Results, failed("z"))
			spoil(set.Ran, "z")
		}
		call(seen)
	}
	for i := range 8 {
		for _, name := range []string{"x", "b", "q", "a", "r"} {
			both(func(s shop) { s.edit(name, letters(8)[i]) })
		}
		both(func(s shop) { s.does(intake, nothing) })
		both(func(s shop) { s.tick(5) })
		both(func(s shop) { s.does(start) })
		both(func(s shop) { s.does(fetched("a"), fetched("b")) })
		if i%2 == 0 {
			both(func(s shop) { s.remove("b") })
			both(func(s shop) { s.does(fetched("x"), checked("a"), abandoned("b")) })
			continue
		}
		both(func(s shop) { s.does(fetched("x"), checked("a"), checked("b"), checked("x")) })
		both(func(s shop) { s.does(publish) })
		if got, want := seen.Read(), left.Read(); !sameSet(got, want) || got.Number != (i+1)/2 {
			t.Fatalf("looked at: %+v, left alone: %+v", got, want)
		}
	}
	seen.looks(left.Look())
}

func TestLookTellsOfOneKilnAlone(t *testing.T) {
	s, u := open(t, exampleRules()...), open(t, exampleRules()...)
	s.edit("a", "", "b", "")
	s.tick(2)
	u.looks(idle(0))
	u.removes("a", api.ErrNone)
	u.edit("b", "")
	u.remove("b")
	u.does(intake)
	s.looks(with(idle(2), "a", "b"))
	s.remove("b")
	s.does(intake)
	s.tick(5)
	s.does(start, fetched("a"))
	u.looks(waiting(0, 0))
	s.looks(reading(7))
}
