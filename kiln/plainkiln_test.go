package kiln_test

import (
	"fmt"
	"math"
	"math/rand"
	"slices"
	"testing"

	"kiln/api"
	"kiln/kiln"
)

// P5, P6 and P7 once more, written down plainly and in another way, and held against a kiln at many
// made-up calls.

type plainKiln struct {
	rules       []api.Rule
	files       []api.File
	edits       []string // the names of all edits there were: a stamp is how often a name is among them
	queue       []string
	lost        bool
	time, since int
	phase       string
	todo        []string // sources that are to be read, or checked
	seen        []api.File
	stamps      map[string]int
	lastIns     map[string]string
	set         api.Set
}

func newPlainKiln(rules []api.Rule) *plainKiln {
	return &plainKiln{rules: rules, phase: "idle", lastIns: map[string]string{}}
}

func (k *plainKiln) find(name string) int {
	return slices.IndexFunc(k.files, func(f api.File) bool { return f.Name == name })
}

func (k *plainKiln) stamp(name string) int {
	n := 0
	for _, edited := range k.edits {
		if edited == name {
			n++
		}
	}
	return n
}

func (k *plainKiln) edit(name, text string) api.Errno {
	at := k.find(name)
	switch {
	case !plainName(name):
		return api.ErrName
	case len(text) > 12:
		return api.ErrText
	case at < 0 && len(k.files) == 12:
		return api.ErrMany
	case at < 0:
		k.files = append(k.files, api.File{Name: name, Text: text})
	default:
		k.files[at].Text = text
	}
	k.event(name)
	return api.OK
}

func (k *plainKiln) event(name string) {
	k.edits = append(k.edits, name)
	waits := slices.Contains(k.queue, name)
	if !waits && len(k.queue) == 4 {
		k.lost = true
	} else if !waits {
		k.queue = append(k.queue, name)
	}
}

func (k *plainKiln) remove(name string) api.Errno {
	at := k.find(name)
	switch {
	case !plainName(name):
		return api.ErrName
	case at < 0:
		return api.ErrNone
	}
	k.files = append(k.files[:at:at], k.files[at+1:]...)
	k.event(name)
	return api.OK
}

func (k *plainKiln) look() api.Look {
	out := api.Look{Time: k.time, Events: k.queue, Lost: k.lost}
	switch k.phase {
	case "waiting":
		out.Phase, out.Since = 1, k.since
	case "reading":
		out.Phase = 2
	case "checking":
		out.Phase = 3
	}
	return out
}

func (k *plainKiln) tick(n int) api.Errno {
	if n <= 0 || n >= 101 || k.time > 100000-n {
		return api.ErrArg
	}
	k.time += n
	return api.OK
}

func (k *plainKiln) sources() []string {
	var out []string
	for _, r := range k.rules {
		for _, in := range r.Ins {
			if byOut(k.rules, in) == nil && !slices.Contains(out, in) {
				out = append(out, in)
			}
		}
	}
	slices.Sort(out)
	return out
}

func (k *plainKiln) work() api.Did {
	if k.phase == "idle" || k.phase == "waiting" {
		switch {
		case len(k.queue) > 0 || k.lost:
			k.queue, k.lost, k.phase, k.since = nil, false, "waiting", k.time
			return api.Did{Kind: 1}
		case k.phase == "waiting" && k.time >= k.since+5:
			k.phase, k.todo, k.seen, k.stamps = "reading", k.sources(), nil, map[string]int{}
			return api.Did{Kind: 2}
		}
		return api.Did{}
	}
	if k.phase == "reading" {
		if len(k.todo) > 0 {
			name := k.todo[0]
			k.todo = k.todo[1:]
			if at := k.find(name); at >= 0 {
				k.seen = append(k.seen, k.files[at])
			}
			k.stamps[name] = k.stamp(name)
			return api.Did{Kind: 3, Name: name}
		}
		k.phase, k.todo = "checking", k.sources()
	}
	if len(k.todo) == 0 {
		k.publish()
		return api.Did{Kind: 6}
	}
	name := k.todo[0]
	k.todo = k.todo[1:]
	if k.stamps[name] != k.stamp(name) {
		k.phase, k.since = "waiting", k.time
		return api.Did{Kind: 5, Name: name}
	}
	return api.Did{Kind: 4, Name: name}
}

// publish makes all results anew; which of them were run it tells from their ins, written out as one text.
func (k *plainKiln) publish() {
	results, _ := plainClean(k.rules, k.seen)
	var outs []string
	for _, r := range k.rules {
		ins := fmt.Sprint(len(r.Ins))
		for _, in := range r.Ins {
			if at := slices.IndexFunc(results, func(x api.Result) bool { return x.Out == in }); at >= 0 {
				ins += fmt.Sprintf(" %v %q", !results[at].Failed, results[at].Text)
			} else if at := slices.IndexFunc(k.seen, func(f api.File) bool { return f.Name == in }); at >= 0 {
				ins += fmt.Sprintf(" %v %q", true, k.seen[at].Text)
			} else {
				ins += fmt.Sprintf(" %v %q", false, "")
			}
		}
		if k.lastIns[r.Out] != ins {
			outs = append(outs, r.Out)
		}
		k.lastIns[r.Out] = ins
	}
	slices.Sort(outs)
	k.set = api.Set{Number: k.set.Number + 1, Results: results, Ran: outs}
	k.phase = "idle"
}

func (m maker) rightRules() []api.Rule {
	for {
		rules := m.rules()
		if e, _ := plainRight(rules); e == api.OK {
			return rules
		}
	}
}

// edited gives a name that is most often one that the rules speak of, and a text that is often an old one.
func (m maker) edited(k *plainKiln) (string, string) {
	name, text := m.name(), []string{"", "1", "2", "11"}[m.Intn(4)]
	if sources := k.sources(); len(sources) > 0 && m.Intn(4) > 0 {
		name = sources[m.Intn(len(sources))]
	}
	switch m.Intn(30) {
	case 0:
		text = m.text()
	case 1:
		text = "thirteen byte"
	}
	return name, text
}

// removed gives a name that is most often that of a file.
func (m maker) removed(k *plainKiln) string {
	if len(k.files) > 0 && m.Intn(4) > 0 {
		return k.files[m.Intn(len(k.files))].Name
	}
	return m.name()
}

func (m maker) ticks() int {
	if m.seldom() {
		return []int{0, -1, 101, math.MaxInt, math.MinInt}[m.Intn(5)]
	}
	return []int{1, 2, 4, 5, 9, 100}[m.Intn(6)]
}

// mood is how calls are made up: of so many as it is eager for five are no work, and of so many Removes as
// it is thrifty for one is made.
type mood struct{ eager, thrifty int }

func (m maker) mood() mood {
	return mood{eager: 6 + m.Intn(33), thrifty: []int{1, 20}[m.Intn(2)]}
}

// call makes one call up, and makes it of both: what was called, and what each answered.
func (m maker) call(k *kiln.Kiln, plain *plainKiln, mood mood) (told string, got, want any) {
	switch n := m.Intn(mood.eager); {
	case n < 2:
		name, text := m.edited(plain)
		return fmt.Sprintf("Edit(%q, %q)", name, text), k.Edit(name, text), plain.edit(name, text)
	case n < 3 && m.Intn(mood.thrifty) == 0:
		name := m.removed(plain)
		return fmt.Sprintf("Remove(%q)", name), k.Remove(name), plain.remove(name)
	case n < 5:
		ticks := m.ticks()
		return fmt.Sprintf("Tick(%d)", ticks), k.Tick(ticks), plain.tick(ticks)
	}
	return "Work()", k.Work(), plain.work()
}

func TestAgainstThePlainKiln(t *testing.T) {
	m := maker{rand.New(rand.NewSource(2))}
	answers, reused, looks := map[any]int{}, 0, map[string]int{}
	for range 1500 {
		rules := m.rightRules()
		plain := newPlainKiln(rules)
		k := open(t, rules...).Kiln
		mood := m.mood()
		var story []string
		for range 250 {
			told, got, want := m.call(k, plain, mood)
			story = append(story, told)
			if got != want {
				t.Fatalf("of %+v, by %q: %v, want %v", rules, story, got, want)
			}
			if set := k.Read(); !sameSet(set, plain.set) {
				t.Fatalf("of %+v, by %q: Read() = %+v, want %+v", rules, story, set, plain.set)
			}
			if look := k.Look(); !sameLook(look, plain.look()) {
				t.Fatalf("of %+v, by %q: Look() = %+v, want %+v", rules, story, look, plain.look())
			}
			if did, ok := want.(api.Did); ok {
				want = did.Kind
			}
			answers[want]++
			looks[fmt.Sprintf("%s, %d wait, lost: %v", plain.phase, min(1, len(plain.queue)), plain.lost)]++
			if want == api.Publish && len(plain.set.Ran) < len(rules) {
				reused++
			}
		}
	}
	t.Log(answers, reused, looks)
	for kind := api.Nothing; kind <= api.Publish; kind++ {
		wantOften(t, answers[kind], "pieces of work were of kind", kind)
	}
	for _, e := range []api.Errno{api.OK, api.ErrMany, api.ErrName, api.ErrText, api.ErrNone, api.ErrArg} {
		wantOften(t, answers[e], "calls had the answer", e)
	}
	for _, phase := range []string{"idle", "waiting", "reading", "checking"} {
		for _, rest := range []string{", 0 wait, lost: false", ", 1 wait, lost: false", ", 1 wait, lost: true"} {
			wantOften(t, looks[phase+rest], "looks were", phase+rest)
		}
	}
	wantOften(t, reused, "sets had results that were", "not run")
}

// wantOften sees to it that what is made up says something.
func wantOften(t *testing.T, n int, what string, which any) {
	t.Helper()
	if n < 100 {
		t.Errorf("only %d made-up %s %v: they say too little of it", n, what, which)
	}
}
