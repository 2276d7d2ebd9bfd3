package kiln_test

import (
	"reflect"
	"runtime"
	"slices"
	"sync"
	"testing"
	"time"

	"kiln/api"
	"kiln/kiln"
)

// Tests of P1 and P2, as far as they are said of Right and Clean. (Those of the daemon stand beside Read's.)

// roomy gives a list of the same items that has spare room, filled with spare.
func roomy[T any](items []T, spare T) []T {
	out := slices.Clone(items)
	for range 5 {
		out = append(out, spare)
	}
	return out[:len(items)]
}

func whole[T any](items []T) []T { return slices.Clone(items[:cap(items)]) }

// handed is what a call may look at and may not write into, spare room and all.
type handed struct {
	rules []api.Rule
	ins   [][]string
	files []api.File
}

func record(rules []api.Rule, f []api.File) handed {
	h := handed{rules: whole(rules), files: whole(f)}
	for i, r := range h.rules {
		h.ins = append(h.ins, whole(r.Ins))
		h.rules[i].Ins = h.ins[i][:len(r.Ins)]
	}
	return h
}

func TestNothingHandedInIsWrittenInto(t *testing.T) {
	spare := rule("p", api.Join, "a")
	for _, rules := range [][]api.Rule{
		{rule("e", api.Turn, "c", "c"), rule("d", api.Count, "x", "c", "a"), rule("c", api.Join, "b", "a")},
		{rule("e", api.Least, "c", "b"), rule("c", api.Sum, "b")},
		{rule("b", api.Join, "a"), rule("a", api.Join, "b")},
		{rule("b", api.Join, "a"), rule("b", api.Join, "x", "w", "v", "u", "t")},
	} {
		for i := range rules {
			rules[i].Ins = roomy(rules[i].Ins, "spare")
		}
		rules = roomy(rules, spare)
		f := roomy(files("b", "2", "a", "1", "c", "no"), api.File{Name: "spare"})
		before := record(rules, f)
		kiln.Right(rules)
		kiln.Clean(rules, f)
		wantSame(t, before, record(rules, f))
	}
}

func wantSame(t *testing.T, before, after handed) {
	t.Helper()
	if !reflect.DeepEqual(before, after) {
		t.Errorf("handed in %+v, left behind %+v", before, after)
	}
}

func TestAnswersAreTheCallers(t *testing.T) {
	rules := []api.Rule{rule("b", api.Join, "x"), rule("a", api.Join, "b")}
	f := files("x", "1")
	want := []api.Result{fine("a", "1"), fine("b", "1")}
	first, _ := kiln.Clean(rules, f)
	second, _ := kiln.Clean(rules, f)
	first = first[:cap(first)]
	for i := range first {
		first[i] = failed("z")
	}
	if !slices.Equal(second, want) {
		t.Errorf("a write into one answer changed another one: %+v", second)
	}
	wantClean(t, rules, f, want...)

	// Nor does a later write into what was handed in reach an answer.
	rules[0], f[0] = rule("z", api.Sum), api.File{Name: "y", Text: "2"}
	rules[1].Ins[0] = "z"
	if !slices.Equal(second, want) {
		t.Errorf("a write into what was handed in changed an answer: %+v", second)
	}
}

func TestCallsSideBySide(t *testing.T) {
	rules := []api.Rule{rule("c", api.Join, "b", "b"), rule("b", api.Turn, "a", "x"), rule("a", api.Join, "x", "y")}
	var callers sync.WaitGroup
	for i := range 32 {
		callers.Go(func() {
			x := letters(26)[i%26]
			for range 50 {
				wantClean(t, rules, files("x", x, "y", "."), fine("a", x+"."), fine("b", x+"."+x), fine("c", x+"."+x+x+"."+x))
			}
		})
	}
	callers.Wait()
}

func TestNoGoroutineIsLeft(t *testing.T) {
	wantNoGoroutines(t, func() {
		for range 200 {
			kiln.Clean([]api.Rule{rule("c", api.Join, "b"), rule("b", api.Join, "a"), rule("a", api.Join, "x")}, nil)
			kiln.Clean([]api.Rule{rule("c", api.Join, "b"), rule("b", api.Join, "c")}, nil)
			kiln.Clean([]api.Rule{rule("c", api.Join, "b")}, files("", ""))
		}
	})
}

func wantNoGoroutines(t *testing.T, calls func()) {
	t.Helper()
	before := runtime.NumGoroutine()
	calls()
	// One that has ended is still counted for a moment.
	for range 200 {
		if runtime.NumGoroutine() <= before {
			return
		}
		time.Sleep(10 * time.Millisecond)
	}
	t.Errorf("%d goroutines ahead of the calls, %d after them", before, runtime.NumGoroutine())
}
