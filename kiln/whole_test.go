package kiln_test

import (
	"fmt"
	"math/rand"
	"slices"
	"testing"

	"kiln/api"
)

// Tests of P8.

// witness calls a kiln, and keeps the files as they were at each moment, so that it can tell of a set that is
// published whether it is one of a moment.
type witness struct {
	shop
	rules   []api.Rule
	files   []api.File
	moments [][]api.File
	begun   int // the number of the moment of the last Start
	shown   int // and of that which the last set is of
	sets    int
}

func watched(t *testing.T, rules []api.Rule) *witness {
	t.Helper()
	return &witness{shop: open(t, rules...), rules: rules, moments: [][]api.File{nil}}
}

func (w *witness) without(name string) []api.File {
	return slices.DeleteFunc(slices.Clone(w.files), func(f api.File) bool { return f.Name == name })
}

func (w *witness) write(name, text string) {
	w.t.Helper()
	w.edit(name, text)
	w.files = append(w.without(name), api.File{Name: name, Text: text})
	w.moments = append(w.moments, w.files)
}

// drop removes a file if it is there.
func (w *witness) drop(name string) {
	w.t.Helper()
	left := w.without(name)
	if len(left) == len(w.files) {
		w.removes(name, api.ErrNone)
		return
	}
	w.remove(name)
	w.files = left
	w.moments = append(w.moments, w.files)
}

func (w *witness) goOn() api.Did {
	w.t.Helper()
	did := w.Work()
	switch did.Kind {
	case api.Start:
		w.begun = len(w.moments) - 1
	case api.Publish:
		w.sets++
		w.wantAMoment()
	}
	if number := w.Read().Number; number != w.sets {
		w.t.Fatalf("set %d was read, %d were published", number, w.sets)
	}
	return did
}

// wantAMoment takes the first moment that fits: a later one would leave less to the sets that follow.
func (w *witness) wantAMoment() {
	w.t.Helper()
	results := w.Read().Results
	for m := max(w.begun, w.shown); m < len(w.moments); m++ {
		if clean, _ := plainClean(w.rules, w.moments[m]); slices.Equal(clean, results) {
			w.shown = m
			return
		}
	}
	w.t.Fatalf("%+v was published, which is clean of none of %+v", results, w.moments[max(w.begun, w.shown):])
}

// settles stops edits and lets time and work go on, and wants the last set to be clean of the files as they are.
func (w *witness) settles() {
	w.t.Helper()
	for range 3 {
		for range 30 {
			w.goOn()
		}
		w.tick(5)
	}
	edited := len(w.moments) > 1
	if clean, _ := plainClean(w.rules, w.files); edited && !slices.Equal(clean, w.Read().Results) {
		w.t.Fatalf("in the end %+v is published, of %+v, which is %+v", w.Read().Results, w.files, clean)
	}
	set, look := w.Read(), w.Look()
	if !sameLook(look, idle(look.Time)) {
		w.t.Fatalf("in the end it stands like this: %+v", look)
	}
	for range 3 {
		w.does(nothing, nothing, nothing)
		w.tick(100)
	}
	if !sameSet(w.Read(), set) {
		w.t.Fatalf("in the end %+v was published, later %+v", set, w.Read())
	}
}

// wholeRules are such that one can tell of each set which texts it was made of.
func wholeRules() []api.Rule {
	return []api.Rule{rule("o", api.Join, "a", "b"), rule("p", api.Count, "a", "b", "c"), rule("q", api.Turn, "o", "c"), rule("r", api.Join, "c")}
}

// change is an edit or a Remove that a test makes somewhere in a build.
type change struct {
	told string
	made func(w *witness, text string)
}

func someChanges() []change {
	return []change{
		{"edit a", func(w *witness, text string) { w.write("a", text) }},
		{"edit b", func(w *witness, text string) { w.write("b", text) }},
		{"edit c", func(w *witness, text string) { w.write("c", text) }},
		{"edit z", func(w *witness, text string) { w.write("z", text) }},
		{"remove a", func(w *witness, text string) { w.drop("a") }},
		{"remove b", func(w *witness, text string) { w.drop("b") }},
		{"remove c", func(w *witness, text string) { w.drop("c") }},
		{"make a anew", func(w *witness, text string) { w.drop("a"); w.write("a", text) }},
		{"edit a and b", func(w *witness, text string) { w.write("a", text); w.write("b", text) }},
		{"edit a to what it was", func(w *witness, text string) { w.write("a", "1") }},
		{"make b what it was", func(w *witness, text string) { w.drop("b"); w.write("b", "2") }},
	}
}

const places = 8 // ahead of Start, three Fetches, three Checks, Publish

// Two changes, each of any kind and at any place of a build of three sources.
func TestSetsAreWholeWheneverFilesAreChanged(t *testing.T) {
	published := 0
	for _, one := range someChanges() {
		for _, other := range someChanges() {
			for first := range places {
				for second := first; second < places; second++ {
					t.Run(fmt.Sprintf("%s at %d, %s at %d", one.told, first, other.told, second), func(t *testing.T) {
						changes := map[int][]change{first: {one}}
						changes[second] = append(changes[second], other)
						published += changedAt(t, changes)
					})
				}
			}
		}
	}
	wantOften(t, published, "builds were", "published")
}

// changedAt makes changes ahead of the pieces of work of one build, and tells how many sets it published.
func changedAt(t *testing.T, all map[int][]change) int {
	t.Helper()
	w := watched(t, wholeRules())
	w.write("a", "1")
	w.write("b", "2")
	w.write("c", "3")
	w.does(intake)
	w.tick(5)
	for place := range places {
		for i, change := range all[place] {
			change.made(w, fmt.Sprintf("%d.%d", place, i))
		}
		w.goOn()
	}
	published := w.sets
	w.settles()
	return published
}

// Each text is what was read whenever the build looks, and yet there was no moment at which all were.
func TestSetsAreWholeWhereTextsComeAndGo(t *testing.T) {
	w := watched(t, wholeRules())
	edits := func(pairs ...string) {
		t.Helper()
		for i := 0; i < len(pairs); i += 2 {
			w.write(pairs[i], pairs[i+1])
		}
	}
	edits("a", "1", "b", "2", "c", "3")
	w.does(intake)
	w.tick(5)
	w.goOn()
	w.goOn() // a is read
	edits("a", "4", "b", "5")
	w.goOn() // b is read
	w.goOn()
	edits("b", "2", "a", "1")
	w.goOn() // a is looked at
	edits("a", "4", "b", "5")
	for range 3 {
		w.goOn()
	}
	w.shows(0, nil)
	w.settles()
	w.shows(1, ran("o", "p", "q", "r"), fine("o", "45"), fine("p", "3"), fine("q", "354"), fine("r", "3"))
}

// Made-up rules, and many changes.
func TestSetsAreWholeAtMadeUpCalls(t *testing.T) {
	m := maker{rand.New(rand.NewSource(8))}
	published, givenUp, lost := 0, 0, 0
	for range 1000 {
		w := watched(t, m.rightRules())
		names := append(newPlainKiln(w.rules).sources(), "uu", "vv", "ww", "xx", "yy")
		names = names[:min(len(names), 12)] // no more than there may be files
		eager := 8 + m.Intn(60)             // of so many calls six are no work
		for range 300 {
			name := names[m.Intn(len(names))]
			switch n := m.Intn(eager); {
			case n < 2:
				w.write(name, []string{"", "1", "2", "3"}[m.Intn(4)])
			case n < 3:
				w.drop(name)
			case n < 6:
				w.tick(1 + m.Intn(6))
			default:
				if w.goOn().Kind == api.Abandon {
					givenUp++
				}
			}
		}
		published += w.sets
		for _, i := range m.Perm(len(names))[:m.Intn(len(names))] {
			w.write(names[i], "4")
		}
		if w.Look().Lost {
			lost++
		}
		w.settles()
	}
	t.Log(published, givenUp, lost)
	wantOften(t, published, "builds were", "published")
	wantOften(t, givenUp, "builds were", "given up")
	wantOften(t, lost, "edits stopped where events were", "lost")
}

func TestEditsThatStop(t *testing.T) {
	for n := 1; n <= 12; n++ {
		rules := []api.Rule{rule("o", api.Join, "a", "b", "c", "d"), rule("p", api.Count, "e", "f", "l"), rule("q", api.Least, "o", "k")}
		w := watched(t, rules)
		for _, name := range letters(n) {
			w.write(name, name)
		}
		if w.Look().Lost != (n > 4) {
			t.Fatalf("of %d events: %+v", n, w.Look())
		}
		w.settles()
		for _, name := range letters(n) {
			w.drop(name)
		}
		if w.Look().Lost != (n > 4) {
			t.Fatalf("of %d events: %+v", n, w.Look())
		}
		w.settles()
		w.shows(2, w.Read().Ran, failed("o"), fine("p", "0"), failed("q"))
	}
}

// Events that are lost while a build goes on are of files that it may have read: it is not the last one.
func TestEditsThatStopWithinABuild(t *testing.T) {
	for place := range 10 {
		w := watched(t, []api.Rule{rule("o", api.Join, "a", "b", "c", "h")})
		w.write("a", "1")
		w.write("h", "1")
		w.does(intake)
		w.tick(5)
		for range place {
			w.goOn()
		}
		for _, name := range []string{"p", "q", "r", "s", "b", "c", "h"} {
			w.write(name, "2")
		}
		w.drop("a")
		w.write("a", "3")
		if look := w.Look(); !look.Lost {
			t.Fatalf("nothing was lost: %+v", look)
		}
		w.settles()
		if set := w.Read(); set.Results[0] != fine("o", "3222") {
			t.Errorf("edits at place %d, in the end: %+v", place, set)
		}
	}
}

// Without an edit nothing is ever built: a Remove of what isn't there is none.
func TestNoEditAtAll(t *testing.T) {
	w := watched(t, exampleRules())
	w.drop("a")
	w.edits("A", "", api.ErrName)
	w.settles()
	w.shows(0, nil)
}

// One Remove alone is enough of an edit.
func TestARemoveAlone(t *testing.T) {
	w := watched(t, exampleRules())
	w.write("a", "1")
	w.settles()
	w.drop("a")
	w.settles()
	w.shows(2, ran("c", "d"), failed("c"), fine("d", "0"), failed("e"))
}
