package build

import (
	"slices"
	"strings"
	"sync"

	"kiln/api"
)

// plan finds out how rules hang together when it is asked for first, and not again.
type plan struct {
	rules []api.Rule
	once  sync.Once
	found layout
}

// layout is how rules hang together. All numbers are places in steps or in sources.
type layout struct {
	steps   []step // by their Outs
	order   []int  // of steps: each behind all that it needs
	sources []string
}

// step is a rule whose ins were looked up.
type step struct {
	out    string
	recipe int
	ins    []in
}

// in is the number of a step or, if it is no Out, of a source.
type in struct {
	isOut  bool
	number int
}

func (p *plan) layout() *layout {
	p.once.Do(func() { p.found = findLayout(p.rules) })
	return &p.found
}

func findLayout(rules []api.Rule) layout {
	sorted := slices.SortedFunc(slices.Values(rules), byOut)
	outs := outsOf(sorted)
	sources := sourcesOf(sorted, outs)
	steps := make([]step, len(sorted))
	for i, rule := range sorted {
		steps[i] = step{out: rule.Out, recipe: rule.Recipe, ins: lookUp(rule.Ins, outs, sources)}
	}
	return layout{steps: steps, order: orderOf(steps), sources: sources}
}

func byOut(x, y api.Rule) int { return strings.Compare(x.Out, y.Out) }

func outsOf(rules []api.Rule) []string {
	outs := make([]string, len(rules))
	for i, rule := range rules {
		outs[i] = rule.Out
	}
	return outs
}

// sourcesOf tells the sources of rules, each once, by their names.
func sourcesOf(rules []api.Rule, outs []string) []string {
	var sources []string
	for _, rule := range rules {
		for _, name := range rule.Ins {
			if !slices.Contains(outs, name) {
				sources = append(sources, name)
			}
		}
	}
	slices.Sort(sources)
	return slices.Compact(sources)
}

// lookUp looks among the Outs first: a file that has the name of an Out is read by nobody.
func lookUp(names, outs, sources []string) []in {
	ins := make([]in, len(names))
	for i, name := range names {
		number, isOut := slices.BinarySearch(outs, name)
		if !isOut {
			number, _ = slices.BinarySearch(sources, name)
		}
		ins[i] = in{isOut: isOut, number: number}
	}
	return ins
}

// orderOf goes over the steps as often as there are some: as they are in no round, each time at least one
// more finds all that it needs ahead of it.
func orderOf(steps []step) []int {
	order := make([]int, 0, len(steps))
	for range steps {
		for number, step := range steps {
			if !slices.Contains(order, number) && allAhead(order, step.ins) {
				order = append(order, number)
			}
		}
	}
	return order
}

func allAhead(order []int, ins []in) bool {
	for _, in := range ins {
		if in.isOut && !slices.Contains(order, in.number) {
			return false
		}
	}
	return true
}
