package kiln_test

import (
	"bytes"
	"fmt"
	"math/rand"
	"slices"
	"testing"

	"kiln/api"
	"kiln/kiln"
)

// P3 and P4 once more, written down plainly and in another way, and held against the calls at many made-up inputs.

func plainName(s string) bool {
	return s != "" && len(s) <= 4 && len(bytes.Trim([]byte(s), "abcdefghijklmnopqrstuvwxyz")) == 0
}

func byOut(rules []api.Rule, out string) *api.Rule {
	for i := range rules {
		if rules[i].Out == out {
			return &rules[i]
		}
	}
	return nil
}

// leads follows ins of ins, no further than there are rules.
func leads(rules []api.Rule, from, to string, depth int) bool {
	r := byOut(rules, from)
	if r == nil || depth == 0 {
		return false
	}
	return slices.ContainsFunc(r.Ins, func(in string) bool { return in == to || leads(rules, in, to, depth-1) })
}

func plainRight(rules []api.Rule) (api.Errno, int) {
	if len(rules) > 8 {
		return api.ErrMany, 0
	}
	for i, r := range rules {
		switch {
		case !plainName(r.Out) || slices.ContainsFunc(r.Ins, func(in string) bool { return !plainName(in) }):
			return api.ErrName, i
		case len(r.Ins) > 4:
			return api.ErrMany, i
		case !slices.Contains([]int{1, 2, 3, 4, 5}, r.Recipe):
			return api.ErrRecipe, i
		case byOut(rules[:i], r.Out) != nil:
			return api.ErrTwice, i
		}
	}
	for i, r := range rules {
		if leads(rules, r.Out, r.Out, len(rules)) {
			return api.ErrRound, i
		}
	}
	return api.OK, 0
}

func plainResult(rules []api.Rule, f []api.File, r api.Rule) api.Result {
	there, sum := 0, 0
	var all []byte
	var least *string
	for _, in := range r.Ins {
		text, found := "", false
		if other := byOut(rules, in); other != nil {
			made := plainResult(rules, f, *other)
			text, found = made.Text, !made.Failed
		} else if i := slices.IndexFunc(f, func(x api.File) bool { return x.Name == in }); i >= 0 {
			text, found = f[i].Text, true
		}
		if !found {
			continue
		}
		there++
		all = append(all, text...)
		for _, b := range []byte(text) {
			sum += int(b)
		}
		if least == nil || bytes.Compare([]byte(text), []byte(*least)) < 0 {
			least = &text
		}
	}
	out := api.Result{Out: r.Out}
	if r.Recipe == api.Count {
		out.Text = fmt.Sprint(there)
		return out
	}
	if there != len(r.Ins) {
		out.Failed = true
		return out
	}
	cut := all[:min(32, len(all))]
	switch r.Recipe {
	case api.Join:
		out.Text = string(cut)
	case api.Turn:
		for i := len(cut) - 1; i >= 0; i-- {
			out.Text += string(cut[i : i+1])
		}
	case api.Sum:
		out.Text = fmt.Sprint(sum)
	case api.Least:
		if least != nil {
			out.Text = *least
		}
	}
	return out
}

func plainClean(rules []api.Rule, f []api.File) ([]api.Result, api.Errno) {
	if e, _ := plainRight(rules); e != api.OK {
		return nil, e
	}
	if len(f) > 12 {
		return nil, api.ErrMany
	}
	seen, noName, twice, long := map[string]int{}, false, false, false
	for _, x := range f {
		noName = noName || !plainName(x.Name)
		twice = twice || seen[x.Name] > 0
		long = long || len(x.Text) > 12
		seen[x.Name]++
	}
	switch {
	case noName:
		return nil, api.ErrName
	case twice:
		return nil, api.ErrTwice
	case long:
		return nil, api.ErrText
	}
	var out []api.Result
	for _, r := range rules {
		out = append(out, plainResult(rules, f, r))
	}
	slices.SortFunc(out, func(x, y api.Result) int { return bytes.Compare([]byte(x.Out), []byte(y.Out)) })
	return out, api.OK
}

// maker makes inputs up, most of them right, always the same ones.
type maker struct{ *rand.Rand }

func (m maker) seldom() bool { return m.Intn(60) == 0 }

func (m maker) name() string {
	if m.seldom() {
		return noNames[m.Intn(len(noNames))]
	}
	return []string{"a", "b", "c", "d", "aa", "ab", "abcd", "e", "f", "g", "h", "x"}[m.Intn(12)]
}

func (m maker) text() string {
	out := make([]byte, m.Intn(13))
	if m.seldom() {
		out = make([]byte, 13)
	}
	for i := range out {
		out[i] = "ab\x00\xff\x80"[m.Intn(5)]
	}
	return string(out)
}

// rules gives Outs an order of its own, and seldom an in against that order: else nearly all would go round.
func (m maker) rules() []api.Rule {
	outs := letters(26)
	m.Shuffle(len(outs), func(i, j int) { outs[i], outs[j] = outs[j], outs[i] })
	n := m.Intn(9)
	if m.seldom() {
		n = 9
	}
	var out []api.Rule
	for i := range n {
		r := api.Rule{Out: outs[i], Recipe: 1 + m.Intn(5)}
		if m.seldom() {
			r.Out = m.name()
		}
		if m.seldom() {
			r.Recipe = m.Intn(9) - 1
		}
		for range m.Intn(5) {
			switch m.Intn(4) {
			case 0:
				r.Ins = append(r.Ins, m.name())
			default:
				r.Ins = append(r.Ins, outs[i+1+m.Intn(min(9, 25-i))])
			}
		}
		if m.seldom() {
			r.Ins = append(r.Ins, "a", "b", "c")
		}
		if m.seldom() {
			r.Ins = append(r.Ins, outs[m.Intn(n)])
		}
		out = append(out, r)
	}
	m.Shuffle(len(out), func(i, j int) { out[i], out[j] = out[j], out[i] })
	return out
}

func (m maker) files() []api.File {
	all := letters(26)
	m.Shuffle(len(all), func(i, j int) { all[i], all[j] = all[j], all[i] })
	n := 6 + m.Intn(7)
	if m.seldom() {
		n = 13
	}
	var out []api.File
	for i := range n {
		f := api.File{Name: all[i], Text: m.text()}
		if m.seldom() {
			f.Name = m.name()
		}
		out = append(out, f)
	}
	return out
}

func TestAgainstThePlainForm(t *testing.T) {
	m := maker{rand.New(rand.NewSource(1))}
	told := map[api.Errno]int{}
	for range 20000 {
		rules, f := m.rules(), m.files()
		e, at := plainRight(rules)
		wantRight(t, rules, e, at)
		want, e := plainClean(rules, f)
		told[e]++
		got, errno := kiln.Clean(rules, f)
		if errno != e || !slices.Equal(got, want) {
			t.Fatalf("Clean(%+v, %q) = %#v, %d, want %#v, %d", rules, f, got, errno, want, e)
		}
	}
	for e := api.OK; e <= api.ErrText; e++ {
		if told[e] < 100 {
			t.Errorf("only %d of the made-up inputs have the answer %d: they say too little of it", told[e], e)
		}
	}
	t.Log(told)
}
