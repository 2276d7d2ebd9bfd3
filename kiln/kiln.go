// Package kiln: whole sets of what is built, whenever files are edited: see DOC.md.
package kiln

import (
	"slices"
	"sync"
	"sync/atomic"

	"kiln/api"
	"kiln/build"
	"kiln/check"
	"kiln/recipe"
	"kiln/watch"
)

// Kiln has rules, files, and a published set. Its calls may be made side by side: Read looks at a set
// that is never written into again, the others take turns.
type Kiln struct {
	turn      sync.Mutex
	builder   *build.Builder
	files     *watch.Files
	queue     watch.Queue
	time      int
	stand     stand
	published atomic.Pointer[api.Set]
}

// Right tells whether rules are right (P3).
func Right(rules []api.Rule) (api.Errno, int) { return check.Rules(rules) }

// Clean tells the results of rules and files (P4).
func Clean(rules []api.Rule, files []api.File) ([]api.Result, api.Errno) {
	if e, _ := check.Rules(rules); e != api.OK {
		return nil, e
	}
	if e := check.Files(files); e != api.OK {
		return nil, e
	}
	builder := build.New(rules)
	results, _ := builder.Build(valuesOf(builder.Sources(), files))
	return results, api.OK
}

// valuesOf leaves the value of a source that is no file as it is: not there.
func valuesOf(sources []string, files []api.File) []recipe.Value {
	values := make([]recipe.Value, len(sources))
	for _, file := range files {
		if i, found := slices.BinarySearch(sources, file.Name); found {
			values[i] = recipe.Value{There: true, Text: file.Text}
		}
	}
	return values
}

// New makes a kiln (P5).
func New(rules []api.Rule) (*Kiln, api.Errno) {
	if e, _ := check.Rules(rules); e != api.OK {
		return nil, e
	}
	k := &Kiln{builder: build.New(rules), files: watch.NewFiles()}
	k.published.Store(&api.Set{})
	return k, api.OK
}

// Edit edits a file (P5).
func (k *Kiln) Edit(name string, text string) api.Errno {
	k.turn.Lock()
	defer k.turn.Unlock()
	if e := k.files.Edit(name, text); e != api.OK {
		return e
	}
	k.queue.Add(name)
	return api.OK
}

// Remove takes a file away (P5).
func (k *Kiln) Remove(name string) api.Errno {
	k.turn.Lock()
	defer k.turn.Unlock()
	if e := k.files.Remove(name); e != api.OK {
		return e
	}
	k.queue.Add(name)
	return api.OK
}

// Tick lets time go on (P5).
func (k *Kiln) Tick(n int) api.Errno {
	k.turn.Lock()
	defer k.turn.Unlock()
	if n < 1 || n > api.MaxTick || k.time+n > api.MaxTime {
		return api.ErrArg
	}
	k.time += n
	return api.OK
}

// Work does one thing (P6).
func (k *Kiln) Work() api.Did {
	k.turn.Lock()
	defer k.turn.Unlock()
	switch k.stand.phase {
	case api.Reading:
		return k.readNext()
	case api.Checking:
		return k.checkNext()
	}
	return k.rest()
}

// Read tells the published set (P7).
func (k *Kiln) Read() api.Set {
	set := *k.published.Load()
	set.Results = slices.Clone(set.Results)
	set.Ran = slices.Clone(set.Ran)
	return set
}

// Look tells how it stands (P7).
func (k *Kiln) Look() api.Look {
	k.turn.Lock()
	defer k.turn.Unlock()
	return api.Look{
		Phase:  k.stand.phase,
		Time:   k.time,
		Since:  k.stand.since,
		Events: k.queue.Names(),
		Lost:   k.queue.Lost(),
	}
}
