// Package check tells what is wrong with names, rules and files, ahead of any work on them.
package check

import "kiln/api"

// Name tells whether a text is a name.
func Name(text string) bool {
	if len(text) < 1 || len(text) > api.MaxName {
		return false
	}
	for i := range len(text) {
		if text[i] < 'a' || text[i] > 'z' {
			return false
		}
	}
	return true
}

// Text tells whether a text is short enough for a file.
func Text(text string) bool {
	return len(text) <= api.MaxText
}
