// Package build works rules: each in a goroutine of its own, which waits for the rules that it needs.
package build

import (
	"slices"
	"sync"

	"kiln/api"
	"kiln/recipe"
)

// Builder works the same rules again and again. It remembers what each was run with last: so no recipe
// is worked in vain.
type Builder struct {
	plan plan
	runs []run // by the numbers of steps
}

// run is how a rule was run last. Done tells one that was never run from one that was run without ins.
type run struct {
	done bool
	ins  []recipe.Value
	made recipe.Value
}

// New makes a builder of rules. They must be right: in a round each rule would wait for the next one for ever.
func New(rules []api.Rule) *Builder {
	own := slices.Clone(rules)
	for i := range own {
		own[i].Ins = slices.Clone(own[i].Ins)
	}
	return &Builder{plan: plan{rules: own}, runs: make([]run, len(own))}
}

// Sources tells the sources of all rules, each once, by their names.
func (b *Builder) Sources() []string {
	return slices.Clone(b.plan.layout().sources)
}

// Build tells the results of all rules, by their Outs, and the Outs that were run for them, by name.
// The values are those of Sources, in that order.
func (b *Builder) Build(sources []recipe.Value) ([]api.Result, []string) {
	work := newBench(b.plan.layout(), sources, b.runs)
	work.workAll()
	return work.results(), work.ranOuts()
}

// bench is what the workers of one build share. They only read it, but for each worker's own elements
// of runs and ran, which others read when the worker has closed its channel.
type bench struct {
	*layout
	values []recipe.Value // of sources
	runs   []run
	ran    []bool
	made   []chan struct{}
}

func newBench(layout *layout, values []recipe.Value, runs []run) *bench {
	b := &bench{
		layout: layout,
		values: values,
		runs:   runs,
		ran:    make([]bool, len(runs)),
		made:   make([]chan struct{}, len(runs)),
	}
	for i := range b.made {
		b.made[i] = make(chan struct{})
	}
	return b
}

// workAll begins each worker behind those that it waits for: so most have no need to wait.
func (b *bench) workAll() {
	var workers sync.WaitGroup
	for _, number := range b.order {
		workers.Add(1)
		go func() {
			defer workers.Done()
			b.work(number)
		}()
	}
	workers.Wait()
}

func (b *bench) work(number int) {
	defer close(b.made[number])
	ins := b.waitFor(b.steps[number].ins)
	if last := b.runs[number]; last.done && slices.Equal(last.ins, ins) {
		return
	}
	b.runs[number] = run{done: true, ins: ins, made: recipe.Make(b.steps[number].recipe, ins)}
	b.ran[number] = true
}

func (b *bench) waitFor(ins []in) []recipe.Value {
	values := make([]recipe.Value, len(ins))
	for i, in := range ins {
		if in.isOut {
			<-b.made[in.number]
			values[i] = b.runs[in.number].made
		} else {
			values[i] = b.values[in.number]
		}
	}
	return values
}

func (b *bench) results() []api.Result {
	out := make([]api.Result, len(b.steps))
	for i, step := range b.steps {
		made := b.runs[i].made
		out[i] = api.Result{Out: step.out, Text: made.Text, Failed: !made.There}
	}
	return out
}

func (b *bench) ranOuts() []string {
	var outs []string
	for i, step := range b.steps {
		if b.ran[i] {
			outs = append(outs, step.out)
		}
	}
	return outs
}
