package check

import (
	"kiln/api"
	"kiln/recipe"
)

// Rules tells the first error of rules, and the number of the rule that has it (P3).
func Rules(rules []api.Rule) (api.Errno, int) {
	if len(rules) > api.MaxRules {
		return api.ErrMany, 0
	}
	for i := range rules {
		if e := oneRule(rules, i); e != api.OK {
			return e, i
		}
	}
	if i := firstRound(rules); i >= 0 {
		return api.ErrRound, i
	}
	return api.OK, 0
}

func oneRule(rules []api.Rule, at int) api.Errno {
	rule := rules[at]
	if !Name(rule.Out) || !allNames(rule.Ins) {
		return api.ErrName
	}
	if len(rule.Ins) > api.MaxIns {
		return api.ErrMany
	}
	if !recipe.Known(rule.Recipe) {
		return api.ErrRecipe
	}
	if ruleOf(rules[:at], rule.Out) >= 0 {
		return api.ErrTwice
	}
	return api.OK
}

func allNames(texts []string) bool {
	for _, text := range texts {
		if !Name(text) {
			return false
		}
	}
	return true
}

// ruleOf tells the number of the rule that has this Out, or -1: then the name is that of a source.
func ruleOf(rules []api.Rule, out string) int {
	for i := range rules {
		if rules[i].Out == out {
			return i
		}
	}
	return -1
}

// needs tells of each rule, by number, which rules it needs.
type needs [api.MaxRules][api.MaxRules]bool

// firstRound tells the number of the first rule that needs itself, or -1.
// A rule that only leads to such a round is none: its own Out is not among its ins of ins.
func firstRound(rules []api.Rule) int {
	all := throughOthers(directNeeds(rules))
	for i := range rules {
		if all[i][i] {
			return i
		}
	}
	return -1
}

func directNeeds(rules []api.Rule) needs {
	var direct needs
	for i, rule := range rules {
		for _, in := range rule.Ins {
			if j := ruleOf(rules, in); j >= 0 {
				direct[i][j] = true
			}
		}
	}
	return direct
}

// throughOthers adds what is needed by way of other rules. The middle one stands in the outermost loop:
// only so is one pass enough.
func throughOthers(all needs) needs {
	for middle := range all {
		for from := range all {
			for to := range all {
				if all[from][middle] && all[middle][to] {
					all[from][to] = true
				}
			}
		}
	}
	return all
}
