// Package build works rules: each in a goroutine of its own, which waits for the rules that it needs.
package build

import (
	"slices"
	"strings"
	"sync"

	"kiln/api"
	"kiln/recipe"
)

// bench is what the workers of one build share. They only read it, but for each worker's own element
// of made, which others read when the worker has closed its channel.
type bench struct {
	rules   []api.Rule
	sources map[string]recipe.Value
	numbers map[string]int // of rules, by their Outs
	made    []recipe.Value
	done    []chan struct{}
}

// Results tells the results of rules, by their Outs. A source that is not in sources is not there.
// The rules must be right: in a round each rule would wait for the next one for ever.
func Results(rules []api.Rule, sources map[string]recipe.Value) []api.Result {
	b := newBench(rules, sources)
	var workers sync.WaitGroup
	for i := range rules {
		workers.Add(1)
		go func() {
			defer workers.Done()
			b.work(i)
		}()
	}
	workers.Wait()
	return b.results()
}

func newBench(rules []api.Rule, sources map[string]recipe.Value) *bench {
	b := &bench{
		rules:   rules,
		sources: sources,
		numbers: make(map[string]int, len(rules)),
		made:    make([]recipe.Value, len(rules)),
		done:    make([]chan struct{}, len(rules)),
	}
	for i, rule := range rules {
		b.numbers[rule.Out] = i
		b.done[i] = make(chan struct{})
	}
	return b
}

func (b *bench) work(number int) {
	defer close(b.done[number])
	rule := b.rules[number]
	ins := make([]recipe.Value, len(rule.Ins))
	for i, in := range rule.Ins {
		ins[i] = b.wait(in)
	}
	b.made[number] = recipe.Make(rule.Recipe, ins)
}

// wait looks for a rule first: a file that has the name of an Out is read by nobody.
func (b *bench) wait(in string) recipe.Value {
	number, isOut := b.numbers[in]
	if !isOut {
		return b.sources[in]
	}
	<-b.done[number]
	return b.made[number]
}

func (b *bench) results() []api.Result {
	out := make([]api.Result, len(b.rules))
	for i, rule := range b.rules {
		made := b.made[i]
		out[i] = api.Result{Out: rule.Out, Text: made.Text, Failed: !made.There}
	}
	slices.SortFunc(out, func(x, y api.Result) int { return strings.Compare(x.Out, y.Out) })
	return out
}
