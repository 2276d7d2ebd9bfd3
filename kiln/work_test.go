package kiln_test

import (
	"testing"

	"kiln/api"
)

// Tests of P6.

func TestWorkOfTheDocument(t *testing.T) {
	s := open(t, exampleRules()...)
	s.edit("a", "1")
	s.does(intake, nothing)
	s.tick(5)
	s.does(start, fetched("a"), fetched("b"), fetched("x"), checked("a"), checked("b"), checked("x"), publish, nothing)
	s.shows(1, ran("c", "d", "e"), failed("c"), fine("d", "1"), failed("e"))

	s.edit("b", "2")
	s.begins()
	s.does(fetched("a"), fetched("b"), fetched("x"), checked("a"))
	s.edit("b", "23")
	s.does(abandoned("b"))
	s.builds("a", "b", "x")
	s.shows(2, ran("c", "d", "e"), fine("c", "123"), fine("d", "2"), fine("e", "321321"))
}

func TestIdle(t *testing.T) {
	s := open(t, exampleRules()...)
	s.does(nothing)
	s.tick(100)
	s.does(nothing, nothing)
	s.edit("a", "")
	s.builds("a", "b", "x")
	s.does(nothing)
	s.tick(100)
	s.does(nothing, nothing)
}

func TestWaitingForQuiet(t *testing.T) {
	s := open(t, exampleRules()...)
	s.tick(100)
	s.edit("a", "")
	s.tick(100) // quiet is counted from the intake, not from the edit
	s.does(intake, nothing)
	for range 4 {
		s.tick(1)
		s.does(nothing, nothing)
	}
	s.tick(1)
	s.does(start)

	more := open(t)
	more.edit("a", "")
	more.does(intake)
	more.tick(6)
	more.does(start)
}

func TestAnEditWhileWaiting(t *testing.T) {
	s := open(t, exampleRules()...)
	s.edit("a", "1")
	s.does(intake)
	s.tick(4)
	s.edit("b", "1")
	s.does(intake, nothing)
	s.tick(4)
	s.does(nothing)
	s.tick(1)
	s.edit("b", "1") // ahead of the start, though there was quiet enough
	s.does(intake, nothing)
	s.tick(4)
	s.edit("q", "") // of no rule's source, and yet an event
	s.does(intake)
	s.tick(4)
	s.does(nothing)
	s.tick(1)
	s.does(start)
}

func TestOneIntakeTakesAllEvents(t *testing.T) {
	for n := 1; n <= 12; n++ {
		s := open(t, rule("o", api.Count, "a", "d", "e", "l"))
		for range 2 {
			for _, name := range letters(n) {
				s.edit(name, "1")
			}
		}
		s.does(intake, nothing)
		s.tick(5)
		s.does(start)
		s.does(each(fetched, "a", "d", "e", "l")...)
		s.does(each(checked, "a", "d", "e", "l")...)
		s.does(publish, nothing)
		there := map[bool]int{}
		for _, at := range []int{1, 4, 5, 12} {
			there[n >= at]++
		}
		s.shows(1, ran("o"), fine("o", string(rune('0'+there[true]))))
	}
}

// Edits whose events are lost are seen all the same, in a build that goes on too.
func TestLostEvents(t *testing.T) {
	s := open(t, rule("o", api.Join, "a", "h"))
	s.edit("a", "1", "h", "1")
	s.begins()
	s.does(fetched("a"), fetched("h"), checked("a"))
	s.edit("p", "", "q", "", "r", "", "s", "", "h", "2")
	s.does(abandoned("h"), intake, nothing)
	s.tick(5)
	s.does(start, fetched("a"), fetched("h"))
	s.edit("p", "", "q", "", "r", "", "s", "", "t", "")
	s.does(checked("a"), checked("h"), publish, intake, nothing)
	s.shows(1, ran("o"), fine("o", "12"))
	s.tick(5)
	s.does(start, fetched("a"), fetched("h"), checked("a"), checked("h"), publish, nothing)
	s.shows(2, nil, fine("o", "12"))
}

func TestAnEditWhileReading(t *testing.T) {
	s := open(t, exampleRules()...)
	s.edit("a", "1", "b", "1")
	s.begins()
	s.edit("a", "2") // not read yet: this is what is read
	s.does(fetched("a"))
	s.edit("b", "2")
	s.tick(100) // time is nothing to a build
	s.does(fetched("b"), fetched("x"))
	s.edit("q", "") // no source
	s.edit("c", "") // nor is an Out
	s.does(checked("a"), checked("b"), checked("x"), publish)
	s.shows(1, ran("c", "d", "e"), fine("c", "22"), fine("d", "2"), fine("e", "2222"))
	s.begins() // the events of the edits waited till then
	s.does(fetched("a"), fetched("b"))
	s.edit("a", "3")
	s.does(fetched("x"), abandoned("a"))
	s.shows(1, ran("c", "d", "e"), fine("c", "22"), fine("d", "2"), fine("e", "2222"))
	s.begins()
	s.edit("b", "3")
	s.does(fetched("a"), fetched("b"), fetched("x"))
	s.edit("x", "")
	s.does(checked("a"), checked("b"), abandoned("x"))
	s.builds("a", "b", "x")
	s.shows(2, ran("c", "d", "e"), fine("c", "33"), fine("d", "3"), fine("e", "3333"))
}

func TestAnEditWhileChecking(t *testing.T) {
	s := open(t, exampleRules()...)
	s.edit("a", "1", "b", "1")
	s.begins()
	s.does(fetched("a"), fetched("b"), fetched("x"), checked("a"))
	s.edit("a", "2") // checked already: not seen by this build
	s.does(checked("b"), checked("x"))
	s.edit("b", "2", "x", "2")
	s.does(publish)
	s.shows(1, ran("c", "d", "e"), fine("c", "11"), fine("d", "2"), fine("e", "1111"))
	s.begins()
	s.does(fetched("a"), fetched("b"), fetched("x"), checked("a"))
	s.edit("x", "2") // to what it was
	s.does(checked("b"), abandoned("x"))
	s.does(intake, nothing)
	s.tick(5)
	s.does(start, fetched("a"), fetched("b"), fetched("x"), checked("a"), checked("b"), checked("x"), publish)
	s.shows(2, ran("c", "d", "e"), fine("c", "22"), fine("d", "3"), fine("e", "2222"))
}

// The first source that was edited is the one that is told, and the next build begins from the first source again.
func TestAbandon(t *testing.T) {
	s := open(t, exampleRules()...)
	s.edit("a", "1", "b", "1")
	s.begins()
	s.does(fetched("a"), fetched("b"), fetched("x"))
	s.edit("x", "", "b", "2", "a", "2")
	s.does(abandoned("a"))
	s.shows(0, nil)
	s.begins()
	s.does(fetched("a"), fetched("b"), fetched("x"), checked("a"))
	s.edit("x", "", "b", "3", "a", "3")
	s.does(abandoned("b"))
	s.shows(0, nil)
	s.tick(5)
	s.does(intake, nothing) // quiet is counted anew
	s.tick(4)
	s.does(nothing)
	s.tick(1)
	s.does(start, fetched("a"), fetched("b"), fetched("x"), checked("a"), checked("b"), checked("x"), publish)
	s.shows(1, ran("c", "d", "e"), fine("c", "33"), fine("d", "3"), fine("e", "3333"))
}

func TestABuildWithoutSources(t *testing.T) {
	bare := open(t)
	bare.edit("a", "1")
	bare.begins()
	bare.does(publish, nothing)
	bare.shows(1, nil)
	bare.edit("a", "1")
	bare.begins()
	bare.edit("a", "2")
	bare.does(publish, intake)
	bare.shows(2, nil)

	s := open(t, rule("p", api.Join, "o", "o"), rule("o", api.Count))
	s.edit("o", "1")
	s.builds()
	s.shows(1, ran("o", "p"), fine("o", "0"), fine("p", "00"))
	s.edit("p", "1")
	s.builds()
	s.shows(2, nil, fine("o", "0"), fine("p", "00"))
}

func TestSourcesAreReadOnceAndByName(t *testing.T) {
	for _, c := range []struct {
		rules   []api.Rule
		sources []string
	}{
		{[]api.Rule{rule("o", api.Join, "z", "a", "z", "a")}, []string{"a", "z"}},
		{[]api.Rule{rule("o", api.Join, "b", "aa", "a", "ab")}, []string{"a", "aa", "ab", "b"}},
		{[]api.Rule{rule("o", api.Join, "z", "p"), rule("p", api.Join, "y", "x"), rule("b", api.Count, "x", "o")}, []string{"x", "y", "z"}},
		{[]api.Rule{rule("o", api.Join, "p"), rule("p", api.Join, "q"), rule("q", api.Join, "r")}, []string{"r"}},
		{[]api.Rule{rule("o", api.Join, "p"), rule("p", api.Join)}, nil},
	} {
		s := open(t, c.rules...)
		s.edit("q", "")
		s.builds(c.sources...)
		s.edit("q", "")
		s.builds(c.sources...)
	}
}

func TestWhatIsRun(t *testing.T) {
	s := open(t, rule("s", api.Sum, "a"), rule("l", api.Least, "b"), rule("j", api.Join, "s", "l"), rule("n", api.Count), rule("k", api.Count, "b"))
	for i, c := range []struct {
		edits   []string
		ran     []string
		results []api.Result
	}{
		{[]string{"a", "a", "b", "x"}, ran("j", "k", "l", "n", "s"),
			[]api.Result{fine("j", "97x"), fine("k", "1"), fine("l", "x"), fine("n", "0"), fine("s", "97")}},
		{[]string{"a", "a"}, nil,
			[]api.Result{fine("j", "97x"), fine("k", "1"), fine("l", "x"), fine("n", "0"), fine("s", "97")}},
		{[]string{"a", "q", "a", "a"}, nil,
			[]api.Result{fine("j", "97x"), fine("k", "1"), fine("l", "x"), fine("n", "0"), fine("s", "97")}},
		{[]string{"a", "b"}, ran("j", "s"),
			[]api.Result{fine("j", "98x"), fine("k", "1"), fine("l", "x"), fine("n", "0"), fine("s", "98")}},
		// The text of b is another one: its Count is run, though it comes to the same.
		{[]string{"b", "y"}, ran("j", "k", "l"),
			[]api.Result{fine("j", "98y"), fine("k", "1"), fine("l", "y"), fine("n", "0"), fine("s", "98")}},
		// The sum of the bytes is the same: nothing behind it is run.
		{[]string{"a", "11"}, ran("s"),
			[]api.Result{fine("j", "98y"), fine("k", "1"), fine("l", "y"), fine("n", "0"), fine("s", "98")}},
		{[]string{"q", "1", "n", "1", "j", "1"}, nil,
			[]api.Result{fine("j", "98y"), fine("k", "1"), fine("l", "y"), fine("n", "0"), fine("s", "98")}},
	} {
		s.edit(c.edits...)
		s.builds("a", "b")
		s.shows(i+1, c.ran, c.results...)
	}
}

// A result that failed was run, too, and is run again when what was not there is.
func TestRunningWhatFails(t *testing.T) {
	s := open(t, rule("p", api.Join, "o"), rule("o", api.Join, "a", "b"), rule("n", api.Count, "o", "b"), rule("m", api.Count, "p"))
	s.edit("q", "")
	s.builds("a", "b")
	s.shows(1, ran("m", "n", "o", "p"), fine("m", "0"), fine("n", "0"), failed("o"), failed("p"))
	s.edit("q", "")
	s.builds("a", "b")
	s.shows(2, nil, fine("m", "0"), fine("n", "0"), failed("o"), failed("p"))
	s.edit("a", "") // it is there now: that it is empty, as it was, is not enough; o fails still
	s.builds("a", "b")
	s.shows(3, ran("o"), fine("m", "0"), fine("n", "0"), failed("o"), failed("p"))
	s.edit("b", "")
	s.builds("a", "b")
	s.shows(4, ran("m", "n", "o", "p"), fine("m", "1"), fine("n", "2"), fine("o", ""), fine("p", ""))
	s.edit("b", "")
	s.builds("a", "b")
	s.shows(5, nil, fine("m", "1"), fine("n", "2"), fine("o", ""), fine("p", ""))
}

// What a build that was given up has read is not what a rule was run with.
func TestAnAbandonedBuildRunsNothing(t *testing.T) {
	s := open(t, rule("o", api.Join, "a"), rule("p", api.Join, "b"))
	s.edit("a", "1", "b", "1")
	s.begins()
	s.does(fetched("a"), fetched("b"))
	s.edit("b", "1")
	s.does(checked("a"), abandoned("b"))
	s.builds("a", "b")
	s.shows(1, ran("o", "p"), fine("o", "1"), fine("p", "1"))
	s.edit("a", "2", "b", "2")
	s.begins()
	s.does(fetched("a"), fetched("b"))
	s.edit("b", "1")
	s.does(checked("a"), abandoned("b"))
	s.builds("a", "b")
	s.shows(2, ran("o"), fine("o", "2"), fine("p", "1"))
	s.edit("a", "1")
	s.builds("a", "b")
	s.shows(3, ran("o"), fine("o", "1"), fine("p", "1"))
}
