package kiln_test

import (
	"testing"

	"kiln/api"
)

// Tests of Remove of P5.

func TestRemoveKnowsNames(t *testing.T) {
	s := open(t, exampleRules()...)
	for _, text := range noNames {
		s.removes(text, api.ErrName)
	}
	for _, name := range names {
		s.removes(name, api.ErrNone)
		s.edit(name, "")
		s.remove(name)
		s.removes(name, api.ErrNone)
	}
	for _, text := range noNames {
		s.removes(text, api.ErrName)
	}
}

func TestRemoveTakesFilesThatAreThere(t *testing.T) {
	s := open(t, exampleRules()...)
	s.removes("a", api.ErrNone)
	s.removes("c", api.ErrNone) // an Out is no file
	s.edit("a", "1", "c", "1", "aa", "")
	s.removes("b", api.ErrNone)
	s.removes("aaa", api.ErrNone)
	s.remove("a")
	s.removes("a", api.ErrNone)
	s.remove("aa", "c")
	s.removes("aa", api.ErrNone)
	s.removes("c", api.ErrNone)
	s.edit("a", "2")
	s.remove("a")
	s.removes("a", api.ErrNone)
}

func TestARemovedFileIsNotBuiltOf(t *testing.T) {
	s := open(t, exampleRules()...)
	s.edit("a", "1", "b", "23")
	s.builds("a", "b", "x")
	s.shows(1, ran("c", "d", "e"), fine("c", "123"), fine("d", "2"), fine("e", "321321"))
	s.remove("b")
	s.builds("a", "b", "x")
	s.shows(2, ran("c", "d", "e"), failed("c"), fine("d", "1"), failed("e"))
	s.remove("a")
	s.builds("a", "b", "x")
	s.shows(3, ran("c", "d"), failed("c"), fine("d", "0"), failed("e"))
	s.edit("b", "3", "a", "2")
	s.builds("a", "b", "x")
	s.shows(4, ran("c", "d", "e"), fine("c", "23"), fine("d", "2"), fine("e", "3232"))
}

// That a file is there no more is a change, also where its text was empty; and what a rule was run with
// ahead of that is forgotten.
func TestRunningWhatWasRemoved(t *testing.T) {
	s := open(t, rule("o", api.Join, "a"), rule("p", api.Count, "a"), rule("q", api.Count))
	s.edit("a", "")
	s.builds("a")
	s.shows(1, ran("o", "p", "q"), fine("o", ""), fine("p", "1"), fine("q", "0"))
	s.remove("a")
	s.builds("a")
	s.shows(2, ran("o", "p"), failed("o"), fine("p", "0"), fine("q", "0"))
	s.edit("a", "")
	s.remove("a")
	s.builds("a")
	s.shows(3, nil, failed("o"), fine("p", "0"), fine("q", "0"))
	s.edit("a", "")
	s.builds("a")
	s.shows(4, ran("o", "p"), fine("o", ""), fine("p", "1"), fine("q", "0"))
	s.remove("a")
	s.edit("a", "")
	s.builds("a")
	s.shows(5, nil, fine("o", ""), fine("p", "1"), fine("q", "0"))
}

func TestRemoveMakesRoom(t *testing.T) {
	s := open(t, rule("o", api.Count, "a", "l", "m", "n"))
	for _, name := range letters(12) {
		s.edit(name, "1")
	}
	s.edits("m", "1", api.ErrMany)
	s.removes("m", api.ErrNone)
	s.edits("m", "1", api.ErrMany) // a Remove with an error makes none
	s.remove("c")
	s.edits("m", "thirteen byte", api.ErrText)
	s.edit("m", "1")
	s.edits("n", "1", api.ErrMany)
	s.edits("c", "1", api.ErrMany) // one that was there has no room of its own
	s.edit("m", "2", "a", "2")
	s.builds("a", "l", "m", "n")
	s.shows(1, ran("o"), fine("o", "3"))
	s.remove(append(letters(12)[3:], "a", "b", "m")...)
	for _, name := range letters(26)[14:] {
		s.edit(name, "")
	}
	s.edits("a", "", api.ErrMany)
	s.builds("a", "l", "m", "n")
	s.shows(2, ran("o"), fine("o", "0"))
}

func TestRemoveIsAnEvent(t *testing.T) {
	s := open(t, exampleRules()...)
	s.edit("a", "1", "q", "")
	s.builds("a", "b", "x")
	s.does(nothing)
	s.remove("a")
	s.looks(with(idle(5), "a"))
	s.does(intake, nothing)
	s.tick(5)
	s.remove("q") // of no rule's source, and yet an event
	s.looks(with(waiting(10, 5), "q"))
	s.does(intake, nothing)
	s.tick(5)
	s.does(start)
	s.edit("q", "", "a", "")
	s.remove("q") // it waits already
	s.looks(with(reading(15), "q", "a"))
	s.remove("a")
	s.looks(with(reading(15), "q", "a"))
}

func TestAnEventOfARemoveIsLostToo(t *testing.T) {
	s := open(t)
	s.edit("a", "", "b", "", "c", "", "d", "", "e", "")
	s.does(intake)
	s.edit("a", "", "b", "")
	s.remove("c", "d")
	s.looks(with(waiting(0, 0), "a", "b", "c", "d"))
	s.remove("a", "b")
	s.looks(with(waiting(0, 0), "a", "b", "c", "d"))
	s.remove("e")
	s.looks(withLost(waiting(0, 0), "a", "b", "c", "d"))
	s.removes("e", api.ErrNone)
	s.does(intake, nothing)
	s.looks(waiting(0, 0))
}

// A Remove of a source between its read and its check is seen, one ahead of the read or behind the check is not.
func TestARemoveWhileBuilding(t *testing.T) {
	s := open(t, exampleRules()...)
	s.edit("a", "1", "b", "1", "x", "1")
	s.begins()
	s.does(fetched("a"))
	s.remove("b") // not read yet
	s.does(fetched("b"), fetched("x"), checked("a"), checked("b"), checked("x"), publish)
	s.shows(1, ran("c", "d", "e"), failed("c"), fine("d", "2"), failed("e"))
	s.begins()
	s.does(fetched("a"))
	s.remove("a")
	s.does(fetched("b"), fetched("x"), abandoned("a"))
	s.begins()
	s.does(fetched("a"), fetched("b"), fetched("x"), checked("a"), checked("b"))
	s.remove("x")
	s.does(abandoned("x"))
	s.shows(1, ran("c", "d", "e"), failed("c"), fine("d", "2"), failed("e"))
	s.edit("b", "1")
	s.begins()
	s.does(fetched("a"), fetched("b"), fetched("x"), checked("a"), checked("b"))
	s.remove("b") // checked already
	s.does(checked("x"), publish)
	s.shows(2, ran("c", "d"), failed("c"), fine("d", "0"), failed("e"))
	s.builds("a", "b", "x")
	s.shows(3, ran("c"), failed("c"), fine("d", "0"), failed("e"))
}

func TestARemoveAndAnEditToTheTextThatWas(t *testing.T) {
	for _, text := range []string{"", "1"} {
		s := open(t, exampleRules()...)
		s.edit("a", "1", "b", text)
		s.begins()
		s.does(fetched("a"), fetched("b"), fetched("x"), checked("a"))
		s.remove("b")
		s.edit("b", text)
		s.does(abandoned("b"))
		s.begins()
		s.does(fetched("a"), fetched("b"))
		s.edit("x", text) // taken back, too
		s.does(fetched("x"))
		s.remove("x")
		s.edit("x", text)
		s.remove("x")
		s.does(checked("a"), checked("b"), abandoned("x"))
		s.begins()
		s.does(fetched("a"), fetched("b"), fetched("x"))
		s.edit("x", text)
		s.remove("x") // not there, as when it was read
		s.does(checked("a"), checked("b"), abandoned("x"))
		s.shows(0, nil)
		s.builds("a", "b", "x")
		s.shows(1, ran("c", "d", "e"), fine("c", "1"+text), fine("d", "2"), fine("e", text+"1"+text+"1"))
	}
}

// Stamps go on where a file is not there: three edits of a name are no fewer than one.
func TestStampsGoOnBehindARemove(t *testing.T) {
	s := open(t, rule("o", api.Join, "a"))
	s.edit("a", "1")
	s.begins()
	s.does(fetched("a"))
	s.remove("a")
	s.edit("a", "1")
	s.does(abandoned("a"))
	s.remove("a")
	s.begins()
	s.does(fetched("a"))
	s.edit("a", "1")
	s.remove("a")
	s.edit("a", "2")
	s.remove("a")
	s.does(abandoned("a"))
	s.builds("a")
	s.shows(1, ran("o"), failed("o"))
}

// A Remove with an error is none: there is no event of it, and no stamp.
func TestRemoveWithAnErrorChangesNothing(t *testing.T) {
	s := open(t, exampleRules()...)
	wrong := func(want api.Look) {
		t.Helper()
		s.removes("b", api.ErrNone)
		s.removes("zz", api.ErrNone)
		s.removes("c", api.ErrNone)
		s.removes("", api.ErrName)
		s.removes("aaaaa", api.ErrName)
		s.removes("A", api.ErrName)
		s.looks(want)
	}
	wrong(idle(0))
	s.does(nothing)
	s.edit("b", "")
	s.remove("b")
	s.edit("a", "1")
	wrong(with(idle(0), "b", "a"))
	s.does(intake)
	wrong(waiting(0, 0))
	s.does(nothing)
	s.tick(5)
	s.does(start, fetched("a"), fetched("b"))
	wrong(reading(5))
	s.does(fetched("x"), checked("a"))
	wrong(checking(5))
	s.does(checked("b"), checked("x"), publish)
	wrong(idle(5))
	s.does(nothing)
	s.shows(1, ran("c", "d", "e"), failed("c"), fine("d", "1"), failed("e"))
}
