package watch

import (
	"slices"
	"strings"
	"testing"

	"kiln/api"
	"kiln/recipe"
)

// Tests of what P5 says of stamps and events.

func TestTheQueueKeepsOrderAndLosesTheFifth(t *testing.T) {
	for _, c := range []struct {
		events, names string
		lost          bool
	}{
		{"", "", false},
		{"a", "a", false},
		{"a a", "a", false},
		{"b a b", "b a", false},
		{"d c b a", "d c b a", false},
		{"d c b a a b c d", "d c b a", false},
		{"d c b a e", "d c b a", true},
		{"d c b a e d", "d c b a", true},
		{"d c b a e f", "d c b a", true},
	} {
		var q Queue
		for _, name := range strings.Fields(c.events) {
			q.Add(name)
		}
		if !slices.Equal(q.Names(), strings.Fields(c.names)) || q.Lost() != c.lost {
			t.Errorf("after the events %q: %q, lost: %v", c.events, q.Names(), q.Lost())
		}
		if q.Waits() != (c.events != "") {
			t.Errorf("after the events %q: Waits() = %v", c.events, q.Waits())
		}
		q.Empty()
		if q.Waits() || len(q.Names()) != 0 || q.Lost() {
			t.Errorf("emptied after the events %q: %q, lost: %v", c.events, q.Names(), q.Lost())
		}
		q.Add("z")
		if !slices.Equal(q.Names(), []string{"z"}) || q.Lost() {
			t.Errorf("after an event behind emptying: %q, lost: %v", q.Names(), q.Lost())
		}
	}
}

func TestAMarkAloneWaits(t *testing.T) {
	if q := (Queue{lost: true}); !q.Waits() {
		t.Errorf("a lost event is not waited for")
	}
}

func TestStampsCountEdits(t *testing.T) {
	f := NewFiles()
	for _, c := range []struct {
		name, text string
		errno      api.Errno
		want       Sight
	}{
		{"a", "thirteen byte", api.ErrText, Sight{}},
		{"a", "", api.OK, Sight{recipe.Value{There: true}, 1}},
		{"a", "", api.OK, Sight{recipe.Value{There: true}, 2}},
		{"b", "1", api.OK, Sight{recipe.Value{There: true, Text: "1"}, 1}},
		{"a", "2", api.OK, Sight{recipe.Value{There: true, Text: "2"}, 3}},
		{"a", "thirteen byte", api.ErrText, Sight{recipe.Value{There: true, Text: "2"}, 3}},
		{"A", "", api.ErrName, Sight{}},
	} {
		if e := f.Edit(c.name, c.text); e != c.errno || f.See(c.name) != c.want {
			t.Errorf("Edit(%q, %q) = %d, then %+v, want %d, %+v", c.name, c.text, e, f.See(c.name), c.errno, c.want)
		}
	}
	for _, name := range strings.Fields("c d e f g h i j k l") {
		f.Edit(name, "")
	}
	if e := f.Edit("m", ""); e != api.ErrMany || f.See("m") != (Sight{}) {
		t.Errorf("of a thirteenth file: %d, then %+v", e, f.See("m"))
	}
}

func TestNamesAreTheCallers(t *testing.T) {
	var q Queue
	q.Add("a")
	q.Add("b")
	first := q.Names()
	first[0] = "z"
	_ = append(first, "y")
	q.Add("c")
	if second := q.Names(); !slices.Equal(second, []string{"a", "b", "c"}) || !slices.Equal(first, []string{"z", "b"}) {
		t.Errorf("Names() = %q, and those told first are %q", second, first)
	}
}

func TestStampsCountRemoves(t *testing.T) {
	f := NewFiles()
	for _, c := range []struct {
		name  string
		call  func(string) api.Errno
		errno api.Errno
		want  Sight
	}{
		{"a", f.Remove, api.ErrNone, Sight{}},
		{"A", f.Remove, api.ErrName, Sight{}},
		{"a", f.write, api.OK, Sight{recipe.Value{There: true, Text: "1"}, 1}},
		{"b", f.Remove, api.ErrNone, Sight{}},
		{"a", f.Remove, api.OK, Sight{Stamp: 2}},
		{"a", f.Remove, api.ErrNone, Sight{Stamp: 2}},
		{"a", f.write, api.OK, Sight{recipe.Value{There: true, Text: "1"}, 3}},
		{"a", f.Remove, api.OK, Sight{Stamp: 4}},
	} {
		if e := c.call(c.name); e != c.errno || f.See(c.name) != c.want {
			t.Errorf("of %q: %d, then %+v, want %d, %+v", c.name, e, f.See(c.name), c.errno, c.want)
		}
	}
}

func (f *Files) write(name string) api.Errno { return f.Edit(name, "1") }
