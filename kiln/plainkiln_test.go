package kiln_test

import (
	"fmt"
	"math"
	"math/rand"
	"slices"
	"testing"

	"kiln/api"
	"kiln/kiln"
)

// P5, P6 and Read of P7 once more, written down plainly and in another way, and held against a kiln at many
// made-up calls.

type plainKiln struct {
	rules       []api.Rule
	files       []api.File
	edits       []string // the names of all edits there were: a stamp is how often a name is among them
	queue       map[string]bool
	lost        bool
	time, since int
	phase       string
	todo        []string // sources that are to be read, or checked
	seen        []api.File
	stamps      map[string]int
	lastIns     map[string]string
	set         api.Set
}

func newPlainKiln(rules []api.Rule) *plainKiln {
	return &plainKiln{rules: rules, queue: map[string]bool{}, phase: "idle", lastIns: map[string]string{}}
}

func (k *plainKiln) find(name string) int {
	return slices.IndexFunc(k.files, func(f api.File) bool { return f.Name == name })
}

func (k *plainKiln) stamp(name string) int {
	n := 0
	for _, edited := range k.edits {
		if edited == name {
			n++
		}
	}
	return n
}

func (k *plainKiln) edit(name, text string) api.Errno {
	at := k.find(name)
	switch {
	case !plainName(name):
		return api.ErrName
	case len(text) > 12:
		return api.ErrText
	case at < 0 && len(k.files) == 12:
		return api.ErrMany
	case at < 0:
		k.files = append(k.files, api.File{Name: name, Text: text})
	default:
		k.files[at].Text = text
	}
	k.edits = append(k.edits, name)
	if !k.queue[name] && len(k.queue) == 4 {
		k.lost = true
	} else {
		k.queue[name] = true
	}
	return api.OK
}

func (k *plainKiln) tick(n int) api.Errno {
	if n <= 0 || n >= 101 || k.time > 100000-n {
		return api.ErrArg
	}
	k.time += n
	return api.OK
}

func (k *plainKiln) sources() []string {
	var out []string
	for _, r := range k.rules {
		for _, in := range r.Ins {
			if byOut(k.rules, in) == nil && !slices.Contains(out, in) {
				out = append(out, in)
			}
		}
	}
	slices.Sort(out)
	return out
}

func (k *plainKiln) work() api.Did {
	if k.phase == "idle" || k.phase == "waiting" {
		switch {
		case len(k.queue) > 0 || k.lost:
			k.queue, k.lost, k.phase, k.since = map[string]bool{}, false, "waiting", k.time
			return api.Did{Kind: 1}
		case k.phase == "waiting" && k.time >= k.since+5:
			k.phase, k.todo, k.seen, k.stamps = "reading", k.sources(), nil, map[string]int{}
			return api.Did{Kind: 2}
		}
		return api.Did{}
	}
	if k.phase == "reading" {
		if len(k.todo) > 0 {
			name := k.todo[0]
			k.todo = k.todo[1:]
			if at := k.find(name); at >= 0 {
				k.seen = append(k.seen, k.files[at])
			}
			k.stamps[name] = k.stamp(name)
			return api.Did{Kind: 3, Name: name}
		}
		k.phase, k.todo = "checking", k.sources()
	}
	if len(k.todo) == 0 {
		k.publish()
		return api.Did{Kind: 6}
	}
	name := k.todo[0]
	k.todo = k.todo[1:]
	if k.stamps[name] != k.stamp(name) {
		k.phase, k.since = "waiting", k.time
		return api.Did{Kind: 5, Name: name}
	}
	return api.Did{Kind: 4, Name: name}
}

// publish makes all results anew; which of them were run it tells from their ins, written out as one text.
func (k *plainKiln) publish() {
	results, _ := plainClean(k.rules, k.seen)
	var outs []string
	for _, r := range k.rules {
		ins := fmt.Sprint(len(r.Ins))
		for _, in := range r.Ins {
			if at := slices.IndexFunc(results, func(x api.Result) bool { return x.Out == in }); at >= 0 {
				ins += fmt.Sprintf(" %v %q", !results[at].Failed, results[at].Text)
			} else if at := slices.IndexFunc(k.seen, func(f api.File) bool { return f.Name == in }); at >= 0 {
				ins += fmt.Sprintf(" %v %q", true, k.seen[at].Text)
			} else {
				ins += fmt.Sprintf(" %v %q", false, "")
			}
		}
		if k.lastIns[r.Out] != ins {
			outs = append(outs, r.Out)
		}
		k.lastIns[r.Out] = ins
	}
	slices.Sort(outs)
	k.set = api.Set{Number: k.set.Number + 1, Results: results, Ran: outs}
	k.phase = "idle"
}

func (m maker) rightRules() []api.Rule {
	for {
		rules := m.rules()
		if e, _ := plainRight(rules); e == api.OK {
			return rules
		}
	}
}

// edited gives a name that is most often one that the rules speak of, and a text that is often an old one.
func (m maker) edited(k *plainKiln) (string, string) {
	name, text := m.name(), []string{"", "1", "2", "11"}[m.Intn(4)]
	if sources := k.sources(); len(sources) > 0 && m.Intn(4) > 0 {
		name = sources[m.Intn(len(sources))]
	}
	switch m.Intn(30) {
	case 0:
		text = m.text()
	case 1:
		text = "thirteen byte"
	}
	return name, text
}

func (m maker) ticks() int {
	if m.seldom() {
		return []int{0, -1, 101, math.MaxInt, math.MinInt}[m.Intn(5)]
	}
	return []int{1, 2, 4, 5, 9, 100}[m.Intn(6)]
}

func TestAgainstThePlainKiln(t *testing.T) {
	m := maker{rand.New(rand.NewSource(2))}
	did, errnos, reused := map[int]int{}, map[api.Errno]int{}, 0
	for range 1500 {
		rules := m.rightRules()
		plain := newPlainKiln(rules)
		k, e := kiln.New(rules)
		if e != api.OK {
			t.Fatalf("New(%+v) = %d", rules, e)
		}
		eager := 8 + m.Intn(30) // of so many calls four are no work
		var story []string
		for range 250 {
			var got, want any
			switch n := m.Intn(eager); {
			case n < 2:
				name, text := m.edited(plain)
				story = append(story, fmt.Sprintf("Edit(%q, %q)", name, text))
				e := plain.edit(name, text)
				errnos[e]++
				got, want = k.Edit(name, text), e
			case n < 4:
				ticks := m.ticks()
				story = append(story, fmt.Sprintf("Tick(%d)", ticks))
				e := plain.tick(ticks)
				errnos[e]++
				got, want = k.Tick(ticks), e
			default:
				story = append(story, "Work()")
				d := plain.work()
				did[d.Kind]++
				got, want = k.Work(), d
				if d.Kind == api.Publish && len(plain.set.Ran) < len(rules) {
					reused++
				}
			}
			if got != want {
				t.Fatalf("of %+v, by %q: %v, want %v", rules, story, got, want)
			}
			set := k.Read()
			if set.Number != plain.set.Number || !slices.Equal(set.Results, plain.set.Results) || !slices.Equal(set.Ran, plain.set.Ran) {
				t.Fatalf("of %+v, by %q: Read() = %+v, want %+v", rules, story, set, plain.set)
			}
		}
	}
	t.Log(did, errnos, reused)
	for kind := api.Nothing; kind <= api.Publish; kind++ {
		if did[kind] < 500 {
			t.Errorf("only %d pieces of made-up work were of kind %d: they say too little of it", did[kind], kind)
		}
	}
	for _, e := range []api.Errno{api.OK, api.ErrMany, api.ErrName, api.ErrText, api.ErrArg} {
		if errnos[e] < 100 {
			t.Errorf("only %d made-up calls had the answer %d: they say too little of it", errnos[e], e)
		}
	}
	if reused < 500 {
		t.Errorf("only %d made-up sets had a result that was not run: they say too little of it", reused)
	}
}
