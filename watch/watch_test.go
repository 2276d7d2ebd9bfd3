package watch

import (
	"slices"
	"strings"
	"testing"

	"kiln/api"
	"kiln/recipe"
)

// Tests of what P5 says of stamps and events, as far as Work doesn't show it.

func TestTheQueueKeepsOrderAndLosesTheFifth(t *testing.T) {
	for _, c := range []struct {
		events, names string
		lost          bool
	}{
		{"", "", false},
		{"a", "a", false},
		{"a a", "a", false},
		{"b a b", "b a", false},
		{"d c b a", "d c b a", false},
		{"d c b a a b c d", "d c b a", false},
		{"d c b a e", "d c b a", true},
		{"d c b a e d", "d c b a", true},
		{"d c b a e f", "d c b a", true},
	} {
		var q Queue
		for _, name := range strings.Fields(c.events) {
			q.Add(name)
		}
		if !slices.Equal(q.names, strings.Fields(c.names)) || q.lost != c.lost {
			t.Errorf("after the events %q: %q, lost: %v", c.events, q.names, q.lost)
		}
		if q.Waits() != (c.events != "") {
			t.Errorf("after the events %q: Waits() = %v", c.events, q.Waits())
		}
		q.Empty()
		if q.Waits() || len(q.names) != 0 || q.lost {
			t.Errorf("emptied after the events %q: %q, lost: %v", c.events, q.names, q.lost)
		}
		q.Add("z")
		if !slices.Equal(q.names, []string{"z"}) || q.lost {
			t.Errorf("after an event behind emptying: %q, lost: %v", q.names, q.lost)
		}
	}
}

func TestAMarkAloneWaits(t *testing.T) {
	if q := (Queue{lost: true}); !q.Waits() {
		t.Errorf("a lost event is not waited for")
	}
}

func TestStampsCountEdits(t *testing.T) {
	f := NewFiles()
	for _, c := range []struct {
		name, text string
		errno      api.Errno
		want       Sight
	}{
		{"a", "thirteen byte", api.ErrText, Sight{}},
		{"a", "", api.OK, Sight{recipe.Value{There: true}, 1}},
		{"a", "", api.OK, Sight{recipe.Value{There: true}, 2}},
		{"b", "1", api.OK, Sight{recipe.Value{There: true, Text: "1"}, 1}},
		{"a", "2", api.OK, Sight{recipe.Value{There: true, Text: "2"}, 3}},
		{"a", "thirteen byte", api.ErrText, Sight{recipe.Value{There: true, Text: "2"}, 3}},
		{"A", "", api.ErrName, Sight{}},
	} {
		if e := f.Edit(c.name, c.text); e != c.errno || f.See(c.name) != c.want {
			t.Errorf("Edit(%q, %q) = %d, then %+v, want %d, %+v", c.name, c.text, e, f.See(c.name), c.errno, c.want)
		}
	}
	for _, name := range strings.Fields("c d e f g h i j k l") {
		f.Edit(name, "")
	}
	if e := f.Edit("m", ""); e != api.ErrMany || f.See("m") != (Sight{}) {
		t.Errorf("of a thirteenth file: %d, then %+v", e, f.See("m"))
	}
}
