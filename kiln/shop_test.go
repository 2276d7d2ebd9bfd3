package kiln_test

import (
	"slices"
	"testing"

	"kiln/api"
	"kiln/kiln"
)

// What tests of the daemon say calls and answers by.

// shop is a kiln under test.
type shop struct {
	*kiln.Kiln
	t *testing.T
}

func open(t *testing.T, rules ...api.Rule) shop {
	t.Helper()
	k, e := kiln.New(rules)
	if k == nil || e != api.OK {
		t.Fatalf("New(%+v) = %v, %d, want a kiln, 0", rules, k, e)
	}
	return shop{k, t}
}

func wantNoKiln(t *testing.T, rules []api.Rule, errno api.Errno) {
	t.Helper()
	if k, e := kiln.New(rules); k != nil || e != errno {
		t.Errorf("New(%+v) = %v, %d, want nil, %d", rules, k, e, errno)
	}
}

func (s shop) edits(name, text string, errno api.Errno) {
	s.t.Helper()
	if e := s.Edit(name, text); e != errno {
		s.t.Fatalf("Edit(%q, %q) = %d, want %d", name, text, e, errno)
	}
}

// edit goes by pairs: a name, its text.
func (s shop) edit(pairs ...string) {
	s.t.Helper()
	for i := 0; i < len(pairs); i += 2 {
		s.edits(pairs[i], pairs[i+1], api.OK)
	}
}

func (s shop) removes(name string, errno api.Errno) {
	s.t.Helper()
	if e := s.Remove(name); e != errno {
		s.t.Fatalf("Remove(%q) = %d, want %d", name, e, errno)
	}
}

func (s shop) remove(names ...string) {
	s.t.Helper()
	for _, name := range names {
		s.removes(name, api.OK)
	}
}

func (s shop) ticks(n int, errno api.Errno) {
	s.t.Helper()
	if e := s.Tick(n); e != errno {
		s.t.Fatalf("Tick(%d) = %d, want %d", n, e, errno)
	}
}

func (s shop) tick(n int) {
	s.t.Helper()
	s.ticks(n, api.OK)
}

// does tells the next pieces of work.
func (s shop) does(all ...api.Did) {
	s.t.Helper()
	for i, want := range all {
		if did := s.Work(); did != want {
			s.t.Fatalf("piece %d of work = %+v, want %+v", i, did, want)
		}
	}
}

// begins goes on from events that wait to the start of a build.
func (s shop) begins() {
	s.t.Helper()
	s.does(intake)
	s.tick(api.Quiet)
	s.does(start)
}

// builds goes on from events that wait to a set that is published, of these sources.
func (s shop) builds(sources ...string) {
	s.t.Helper()
	s.begins()
	s.does(each(fetched, sources...)...)
	s.does(each(checked, sources...)...)
	s.does(publish)
}

func (s shop) shows(number int, ran []string, results ...api.Result) {
	s.t.Helper()
	if set := s.Read(); !sameSet(set, api.Set{Number: number, Results: results, Ran: ran}) {
		s.t.Fatalf("Read() = %+v, want %d, %+v, %q run", set, number, results, ran)
	}
}

func (s shop) looks(want api.Look) {
	s.t.Helper()
	if look := s.Look(); !sameLook(look, want) {
		s.t.Fatalf("Look() = %+v, want %+v", look, want)
	}
}

func sameLook(x, y api.Look) bool {
	return x.Phase == y.Phase && x.Time == y.Time && x.Since == y.Since && x.Lost == y.Lost && slices.Equal(x.Events, y.Events)
}

func sameSet(x, y api.Set) bool {
	return x.Number == y.Number && slices.Equal(x.Results, y.Results) && slices.Equal(x.Ran, y.Ran)
}

// What Look tells where no event waits.
func idle(time int) api.Look           { return api.Look{Phase: 0, Time: time} }
func waiting(time, since int) api.Look { return api.Look{Phase: 1, Time: time, Since: since} }
func reading(time int) api.Look        { return api.Look{Phase: 2, Time: time} }
func checking(time int) api.Look       { return api.Look{Phase: 3, Time: time} }

func with(look api.Look, events ...string) api.Look {
	look.Events = events
	return look
}

func withLost(look api.Look, events ...string) api.Look {
	look.Events, look.Lost = events, true
	return look
}

func ran(outs ...string) []string { return outs }

var (
	nothing = api.Did{Kind: 0}
	intake  = api.Did{Kind: 1}
	start   = api.Did{Kind: 2}
	publish = api.Did{Kind: 6}
)

func fetched(name string) api.Did   { return api.Did{Kind: 3, Name: name} }
func checked(name string) api.Did   { return api.Did{Kind: 4, Name: name} }
func abandoned(name string) api.Did { return api.Did{Kind: 5, Name: name} }

func each(did func(string) api.Did, names ...string) []api.Did {
	var out []api.Did
	for _, name := range names {
		out = append(out, did(name))
	}
	return out
}

// exampleRules are those of the document; their sources are a, b and x.
func exampleRules() []api.Rule {
	return []api.Rule{rule("c", api.Join, "a", "b"), rule("d", api.Count, "a", "x", "c"), rule("e", api.Turn, "c", "c")}
}
