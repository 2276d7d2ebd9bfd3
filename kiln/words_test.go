package kiln_test

import (
	"slices"
	"testing"

	"kiln/api"
	"kiln/kiln"
)

// What tests of more than one promise say rules, files and results by.

func rule(out string, recipe int, ins ...string) api.Rule {
	return api.Rule{Out: out, Recipe: recipe, Ins: ins}
}

// letters gives the names a, b, c ..
func letters(n int) []string {
	var out []string
	for i := range n {
		out = append(out, string(rune('a'+i)))
	}
	return out
}

// files goes by pairs: a name, its text.
func files(pairs ...string) []api.File {
	var out []api.File
	for i := 0; i < len(pairs); i += 2 {
		out = append(out, api.File{Name: pairs[i], Text: pairs[i+1]})
	}
	return out
}

func fine(out, text string) api.Result { return api.Result{Out: out, Text: text} }

func failed(out string) api.Result { return api.Result{Out: out, Failed: true} }

func wantRight(t *testing.T, rules []api.Rule, errno api.Errno, at int) {
	t.Helper()
	if e, i := kiln.Right(rules); e != errno || i != at {
		t.Errorf("Right(%+v) = %d, %d, want %d, %d", rules, e, i, errno, at)
	}
}

func wantClean(t *testing.T, rules []api.Rule, files []api.File, want ...api.Result) {
	t.Helper()
	if got, e := kiln.Clean(rules, files); e != api.OK || !slices.Equal(got, want) {
		t.Errorf("Clean(%+v, %q) = %#v, %d, want %#v, 0", rules, files, got, e, want)
	}
}

func wantNoClean(t *testing.T, rules []api.Rule, files []api.File, errno api.Errno) {
	t.Helper()
	if got, e := kiln.Clean(rules, files); e != errno || len(got) != 0 {
		t.Errorf("Clean(%+v, %q) = %#v, %d, want nothing, %d", rules, files, got, e, errno)
	}
}

// names and noNames are the two sides of each bound of a name.
var names = []string{"a", "z", "m", "aa", "abc", "abcd", "zzzz"}

var noNames = []string{
	"", "abcde", "aaaaaaaaaaaaaaaaaaaaaaaaaaaaaaaaaaaaaaaa",
	"A", "Z", "`", "{", "0", " ", "_", "\x00", "\xe1", "\xff", "\u00e4", "\u0430",
	"aB", "a b", "abc1", "1abc", "a\x00", "abc{", "ab`c",
}
