package kiln_test

import (
	"sync"
	"testing"

	"kiln/api"
	"kiln/kiln"
)

// Tests of Read of P7, and of P1 and P2 as far as they are said of the daemon.

func TestReadShowsWholeSetsOnly(t *testing.T) {
	s := open(t, exampleRules()...)
	first := []api.Result{fine("c", "11"), fine("d", "2"), fine("e", "1111")}
	s.shows(0, nil)
	s.edit("a", "1", "b", "1")
	for _, did := range []api.Did{intake, nothing, nothing} {
		s.shows(0, nil)
		s.does(did)
	}
	s.tick(5)
	build := append([]api.Did{start}, each(fetched, "a", "b", "x")...)
	build = append(build, each(checked, "a", "b", "x")...)
	for _, did := range build {
		s.does(did)
		s.shows(0, nil)
		s.shows(0, nil)
	}
	s.does(publish)
	s.shows(1, ran("c", "d", "e"), first...)
	s.edit("a", "2")
	s.does(intake)
	s.tick(5)
	for _, did := range build {
		s.does(did)
		s.shows(1, ran("c", "d", "e"), first...)
	}
	s.does(publish)
	s.shows(2, ran("c", "d", "e"), fine("c", "21"), fine("d", "2"), fine("e", "1212"))
}

func TestReadTellsByName(t *testing.T) {
	var rules []api.Rule
	for _, out := range []string{"b", "ab", "zzzz", "a", "aa", "z", "aaaa", "ba"} {
		rules = append(rules, rule(out, api.Join, "x"))
	}
	rules[0].Ins, rules[5].Ins = nil, nil
	s := open(t, rules...)
	s.edit("x", "1")
	s.builds("x")
	s.shows(1, ran("a", "aa", "aaaa", "ab", "b", "ba", "z", "zzzz"), fine("a", "1"), fine("aa", "1"), fine("aaaa", "1"), fine("ab", "1"),
		fine("b", ""), fine("ba", "1"), fine("z", ""), fine("zzzz", "1"))
	s.edit("x", "2")
	s.builds("x")
	s.shows(2, ran("a", "aa", "aaaa", "ab", "ba", "zzzz"), fine("a", "2"), fine("aa", "2"), fine("aaaa", "2"), fine("ab", "2"),
		fine("b", ""), fine("ba", "2"), fine("z", ""), fine("zzzz", "2"))
}

// spoil writes into all of a list, its spare room too.
func spoil[T any](list []T, with T) {
	list = list[:cap(list)]
	for i := range list {
		list[i] = with
	}
}

func TestAReadSetIsTheCallers(t *testing.T) {
	s := open(t, exampleRules()...)
	s.edit("a", "1", "b", "1")
	s.builds("a", "b", "x")
	results := []api.Result{fine("c", "11"), fine("d", "2"), fine("e", "1111")}
	kept := s.Read()
	for range 3 {
		set := s.Read()
		spoil(set.Results, failed("z"))
		spoil(set.Ran, "z")
		s.shows(1, ran("c", "d", "e"), results...)
	}
	s.edit("x", "")
	s.builds("a", "b", "x")
	s.shows(2, ran("d"), fine("c", "11"), fine("d", "3"), fine("e", "1111"))
	if len(kept.Results) != 3 || kept.Results[1] != results[1] || len(kept.Ran) != 3 || kept.Ran[1] != "d" {
		t.Errorf("what was read ahead of a later build was changed: %+v", kept)
	}
}

func TestNewKeepsAndWritesNothingHandedIn(t *testing.T) {
	rules := exampleRules()
	for i := range rules {
		rules[i].Ins = roomy(rules[i].Ins, "spare")
	}
	rules = roomy(rules, rule("p", api.Join, "q"))
	before := record(rules, nil)
	s := open(t, rules...)
	for i := range rules {
		spoil(rules[i].Ins, "z")
	}
	spoil(rules, rule("z", api.Sum, "y"))
	spoilt := record(rules, nil)
	s.edit("a", "1", "b", "23")
	s.builds("a", "b", "x")
	s.shows(1, ran("c", "d", "e"), fine("c", "123"), fine("d", "2"), fine("e", "321321"))
	wantSame(t, spoilt, record(rules, nil))

	again := exampleRules()
	for i := range again {
		again[i].Ins = roomy(again[i].Ins, "spare")
	}
	again = roomy(again, rule("p", api.Join, "q"))
	u := open(t, again...)
	u.edit("a", "1")
	u.builds("a", "b", "x")
	wantSame(t, before, record(again, nil))
	kiln.New(again[:cap(again)])
	wantSame(t, before, record(again, nil))
}

func TestKilnsHaveNothingToDoWithOneAnother(t *testing.T) {
	s, u := open(t, exampleRules()...), open(t, exampleRules()...)
	s.edit("a", "1", "b", "1")
	u.does(nothing)
	s.does(intake)
	s.tick(5)
	u.edit("a", "2")
	u.does(intake, nothing)
	s.does(start, fetched("a"))
	u.edit("a", "3")
	s.does(fetched("b"), fetched("x"), checked("a"), checked("b"), checked("x"), publish)
	u.shows(0, nil)
	s.shows(1, ran("c", "d", "e"), fine("c", "11"), fine("d", "2"), fine("e", "1111"))
	u.builds("a", "b", "x")
	u.shows(1, ran("c", "d", "e"), failed("c"), fine("d", "1"), failed("e"))
	s.shows(1, ran("c", "d", "e"), fine("c", "11"), fine("d", "2"), fine("e", "1111"))
}

func TestNoGoroutineIsLeftByTheDaemon(t *testing.T) {
	wantNoGoroutines(t, func() {
		for range 50 {
			s := open(t, exampleRules()...)
			s.edit("a", "1", "b", "1")
			s.builds("a", "b", "x")
			s.edit("a", "2")
			s.builds("a", "b", "x")
			s.edit("a", "3")
			s.begins()
			s.remove("a")
			s.removes("a", api.ErrNone)
			s.Read()
			s.Look()
		}
	})
}

// A set is whole, and sets go forward, also for one who reads while others edit and work.
func TestCallsOfOneKilnSideBySide(t *testing.T) {
	s := open(t, rule("o", api.Join, "a"), rule("p", api.Turn, "a", "a"), rule("q", api.Join, "o", "o"))
	var callers sync.WaitGroup
	for i := range 4 {
		callers.Go(func() {
			for range 300 {
				s.Edit("a", letters(4)[i])
				s.Edit("b", "")
				s.Remove("b")
				s.Tick(5)
				for range 5 {
					s.Work()
				}
			}
		})
	}
	for range 4 {
		callers.Go(func() {
			last := 0
			for range 3000 {
				set := s.Read()
				if set.Number < last {
					t.Errorf("set %d was read after set %d", set.Number, last)
				}
				last = set.Number
				if set.Number > 0 && (len(set.Results) != 3 || set.Results[1].Text != set.Results[2].Text) {
					t.Errorf("a set that is not whole was read: %+v", set)
				}
				if look := s.Look(); look.Since > look.Time || len(look.Events) > 2 || look.Lost {
					t.Errorf("it was seen like this: %+v", look)
				}
			}
		})
	}
	callers.Wait()
}
