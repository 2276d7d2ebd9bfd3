package kiln_test

import (
	"strings"
	"testing"

	"kiln/api"
)

// Tests of P4.

func TestCleanOfTheDocument(t *testing.T) {
	rules := []api.Rule{rule("c", api.Join, "a", "b"), rule("d", api.Count, "a", "x", "c"), rule("e", api.Turn, "c", "c")}
	wantClean(t, rules, files("a", "1", "b", "23"), fine("c", "123"), fine("d", "2"), fine("e", "321321"))
	wantClean(t, rules, files("a", "1"), failed("c"), fine("d", "1"), failed("e"))
}

func TestCleanOfNothing(t *testing.T) {
	wantClean(t, nil, nil)
	wantClean(t, []api.Rule{}, []api.File{})
	wantClean(t, nil, files("a", "1"))
	wantClean(t, []api.Rule{rule("o", api.Join)}, nil, fine("o", ""))
}

func TestCleanTellsResultsByTheirOuts(t *testing.T) {
	var rules []api.Rule
	for _, out := range []string{"b", "ab", "zzzz", "a", "aa", "z", "aaaa", "ba"} {
		rules = append(rules, rule(out, api.Count))
	}
	wantClean(t, rules, nil, fine("a", "0"), fine("aa", "0"), fine("aaaa", "0"), fine("ab", "0"),
		fine("b", "0"), fine("ba", "0"), fine("z", "0"), fine("zzzz", "0"))
}

func TestCleanTellsTheErrorOfRight(t *testing.T) {
	bad := files("", "thirteen byte", "", "thirteen byte")
	for _, c := range []struct {
		rules []api.Rule
		want  api.Errno
	}{
		{make([]api.Rule, 9), api.ErrMany},
		{[]api.Rule{rule("o", api.Join), rule("", api.Join)}, api.ErrName},
		{[]api.Rule{rule("o", api.Join, "a", "a", "a", "a", "a")}, api.ErrMany},
		{[]api.Rule{rule("o", 6)}, api.ErrRecipe},
		{[]api.Rule{rule("o", api.Join), rule("o", api.Join)}, api.ErrTwice},
		{[]api.Rule{rule("o", api.Join), rule("p", api.Join, "p")}, api.ErrRound},
	} {
		for _, f := range [][]api.File{nil, files("a", "1"), bad, make([]api.File, 13)} {
			wantNoClean(t, c.rules, f, c.want)
		}
	}
}

func TestCleanTellsTheErrorOfFiles(t *testing.T) {
	rules := []api.Rule{rule("o", api.Count, "a", "b")}
	var full []api.File
	for _, name := range letters(13) {
		full = append(full, api.File{Name: name, Text: "twelve bytes"})
	}
	wantClean(t, rules, full[:12], fine("o", "2"))
	wantNoClean(t, rules, full, api.ErrMany)
	wantNoClean(t, nil, full, api.ErrMany)
	wantNoClean(t, rules, make([]api.File, 100000), api.ErrMany)

	long := "thirteen byte"
	for _, c := range []struct {
		files []api.File
		want  api.Errno
	}{
		{make([]api.File, 13), api.ErrMany},
		{files("a", long, "a", long, "b", "", "A", ""), api.ErrName},
		{files("", long, "", long), api.ErrName},
		{files("a", long, "b", "", "a", ""), api.ErrTwice},
		{files("q", "", "a", "", "b", "", "q", long), api.ErrTwice},
		{files("o", "", "o", ""), api.ErrTwice},
		{files("a", long), api.ErrText},
		{files("a", "", "o", long), api.ErrText},
		{files("a", "", "q", long), api.ErrText},
		{files("a", strings.Repeat("x", 100000)), api.ErrText},
		{files("a", "\u00e4\u00e4\u00e4\u00e4\u00e4\u00e4\u00e4"), api.ErrText},
	} {
		wantNoClean(t, rules, c.files, c.want)
		wantNoClean(t, nil, c.files, c.want)
	}
}

func TestCleanKnowsNamesOfFiles(t *testing.T) {
	for _, name := range names {
		wantClean(t, []api.Rule{rule("o", api.Join, name)}, files(name, "1"), fine("o", "1"))
	}
	for _, text := range noNames {
		wantNoClean(t, []api.Rule{rule("o", api.Count)}, files("a", "1", text, "1"), api.ErrName)
	}
}

func TestCleanWorksRecipes(t *testing.T) {
	f := files("a", "b", "b", "ba", "n", "", "d", "\xff\x00", "e", "123456789012", "u", "\u00e4", "f", "\xff\xff\xff\xff\xff\xff\xff\xff\xff\xff\xff\xff", "g", "12345678")
	for _, c := range []struct {
		recipe int
		want   string
		ins    []string
	}{
		{api.Join, "", nil},
		{api.Join, "", []string{"n"}},
		{api.Join, "bbab", []string{"a", "b", "n", "a"}},
		{api.Join, "bab", []string{"b", "a"}},
		{api.Join, "\xff\x00\u00e4", []string{"d", "u"}},
		{api.Turn, "", nil},
		{api.Turn, "bab", []string{"b", "a"}},
		{api.Turn, "abb", []string{"a", "b"}},
		{api.Turn, "\xa4\xc3\x00\xff", []string{"d", "u"}},
		{api.Sum, "0", nil},
		{api.Sum, "0", []string{"n", "n"}},
		{api.Sum, "98", []string{"a"}},
		{api.Sum, "196", []string{"a", "a"}},
		{api.Sum, "255", []string{"d"}},
		{api.Sum, "359", []string{"u"}},
		{api.Sum, "12240", []string{"f", "f", "f", "f"}},
		{api.Least, "", nil},
		{api.Least, "b", []string{"b", "a"}},
		{api.Least, "b", []string{"a", "b"}},
		{api.Least, "ba", []string{"b", "b"}},
		{api.Least, "", []string{"b", "n", "a"}},
		{api.Least, "\u00e4", []string{"d", "u", "f"}},
		{api.Least, "\xff\x00", []string{"f", "d"}},
		{api.Least, "12345678", []string{"e", "g"}},
		{api.Count, "0", nil},
		{api.Count, "1", []string{"n"}},
		{api.Count, "4", []string{"a", "b", "a", "a"}},
		{api.Count, "2", []string{"a", "q", "a", "q"}},
		{api.Count, "0", []string{"q", "r", "s", "t"}},
	} {
		wantClean(t, []api.Rule{rule("o", c.recipe, c.ins...)}, f, fine("o", c.want))
	}
}

func TestCleanCutsJoinAndTurn(t *testing.T) {
	f := files("a", "abcdefghijkl", "b", "12345678", "c", "9")
	whole := "abcdefghijklabcdefghijkl12345678"
	turned := "87654321lkjihgfedcbalkjihgfedcba"
	for _, ins := range [][]string{{"a", "a", "b"}, {"a", "a", "b", "c"}, {"a", "a", "b", "a"}} {
		rules := []api.Rule{rule("j", api.Join, ins...), rule("t", api.Turn, ins...)}
		wantClean(t, rules, f, fine("j", whole), fine("t", turned))
	}
	short := []api.Rule{rule("j", api.Join, "a", "b", "b"), rule("t", api.Turn, "a", "b", "b", "c")}
	wantClean(t, short, f, fine("j", "abcdefghijkl1234567812345678"), fine("t", "98765432187654321lkjihgfedcba"))

	// A result may be longer than a file, and is whole where it is an in.
	rules := []api.Rule{
		rule("j", api.Join, "a", "a", "a", "a"), rule("jj", api.Join, "c", "j", "j"), rule("jt", api.Turn, "j", "j", "j", "j"),
		rule("s", api.Sum, "j", "j"), rule("l", api.Least, "j"),
	}
	cut := "abcdefghijklabcdefghijklabcdefgh"
	wantClean(t, rules, f, fine("j", cut), fine("jj", "9"+cut[:31]), fine("jt", "hgfedcbalkjihgfedcbalkjihgfedcba"),
		fine("l", cut), fine("s", "6528"))
}

func TestCleanFails(t *testing.T) {
	f := files("a", "1", "n", "")
	for _, recipe := range []int{api.Join, api.Turn, api.Sum, api.Least} {
		for _, ins := range [][]string{{"x"}, {"a", "x"}, {"x", "a"}, {"n", "x", "n"}, {"a", "a", "a", "x"}, {"x", "x"}} {
			wantClean(t, []api.Rule{rule("o", recipe, ins...)}, f, failed("o"))
		}
		// A result fails with an in that failed; not with one that is empty.
		wantClean(t, []api.Rule{rule("o", recipe, "a", "p"), rule("p", recipe, "q"), rule("q", recipe, "x")}, f,
			failed("o"), failed("p"), failed("q"))
		empty := ""
		if recipe == api.Sum {
			empty = "0"
		}
		wantClean(t, []api.Rule{rule("o", api.Count, "p"), rule("p", recipe, "n")}, f, fine("o", "1"), fine("p", empty))
	}
	// Count does not fail, so what is made of it does not either.
	wantClean(t, []api.Rule{rule("o", api.Join, "c", "a"), rule("c", api.Count, "p", "x", "a", "p"), rule("p", api.Join, "x")}, f,
		fine("c", "1"), fine("o", "11"), failed("p"))
}

func TestCleanTakesAnInTwiceTwice(t *testing.T) {
	rules := []api.Rule{
		rule("c", api.Count, "a", "b", "a", "x"), rule("j", api.Join, "a", "b", "a"), rule("l", api.Least, "b", "b"),
		rule("s", api.Sum, "a", "b", "a"), rule("t", api.Turn, "j", "j"),
	}
	wantClean(t, rules, files("a", "12", "b", "3"), fine("c", "3"), fine("j", "12312"), fine("l", "3"), fine("s", "249"), fine("t", "2132121321"))
}

func TestCleanReadsNoFileThatHasTheNameOfAnOut(t *testing.T) {
	rules := []api.Rule{rule("j", api.Join, "o", "a"), rule("c", api.Count, "o", "p"), rule("o", api.Turn, "a"), rule("p", api.Sum, "x")}
	f := files("o", "file", "a", "12", "p", "file")
	wantClean(t, rules, f, fine("c", "1"), fine("j", "2112"), fine("o", "21"), failed("p"))
	wantClean(t, rules, f[:1], fine("c", "0"), failed("j"), failed("o"), failed("p"))
}

// Files may be there in any order, and rules ahead of what they need or behind it.
func TestCleanHangsOnNoOrder(t *testing.T) {
	var rules []api.Rule
	want := []api.Result{}
	text := "i"
	for number := 7; number >= 0; number-- {
		text += "x"
		rules = append(rules, rule(letters(8)[number], api.Join, letters(9)[number+1], "x"))
		want = append([]api.Result{fine(letters(8)[number], text)}, want...)
	}
	f := files("x", "x", "i", "i", "b", "no")
	for range 8 {
		rules = append(rules[3:], rules[:3]...)
		f = append(f[1:], f[0])
		for range 50 {
			wantClean(t, rules, f, want...)
		}
	}
}
