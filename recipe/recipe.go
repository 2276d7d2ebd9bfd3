// Package recipe makes the text of a result of the texts of its ins.
package recipe

import (
	"slices"
	"strconv"
	"strings"

	"kiln/api"
)

// Value is an in as a recipe sees it, and also what a recipe makes: an Out is an in of other rules.
// Text is empty where There is false.
type Value struct {
	There bool
	Text  string
}

// Known tells whether there is a recipe of this number.
func Known(recipe int) bool {
	return recipe >= api.Join && recipe <= api.Count
}

// Make works a recipe. What it makes is not there if it failed.
func Make(recipe int, ins []Value) Value {
	there := count(ins)
	if recipe == api.Count {
		return Value{There: true, Text: strconv.Itoa(there)}
	}
	if there < len(ins) {
		return Value{}
	}
	return Value{There: true, Text: combine(recipe, textsOf(ins))}
}

func combine(recipe int, texts []string) string {
	switch recipe {
	case api.Join:
		return join(texts)
	case api.Turn:
		return turn(join(texts))
	case api.Sum:
		return strconv.Itoa(sum(texts))
	case api.Least:
		return least(texts)
	}
	return ""
}

func count(ins []Value) int {
	n := 0
	for _, in := range ins {
		if in.There {
			n++
		}
	}
	return n
}

func textsOf(ins []Value) []string {
	out := make([]string, len(ins))
	for i, in := range ins {
		out[i] = in.Text
	}
	return out
}

func join(texts []string) string {
	whole := strings.Join(texts, "")
	return whole[:min(len(whole), api.MaxLong)]
}

// turn goes by bytes, not by runes: texts are bytes.
func turn(text string) string {
	turned := []byte(text)
	slices.Reverse(turned)
	return string(turned)
}

func sum(texts []string) int {
	total := 0
	for _, text := range texts {
		for i := range len(text) {
			total += int(text[i])
		}
	}
	return total
}

func least(texts []string) string {
	if len(texts) == 0 {
		return ""
	}
	return slices.Min(texts)
}
