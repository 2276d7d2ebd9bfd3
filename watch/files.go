// Package watch keeps files as they stand, how often each was edited, and which edits nobody took note of yet.
package watch

import (
	"kiln/api"
	"kiln/check"
	"kiln/recipe"
)

// Files are the files that are there, and the stamps of all names that were ever edited.
type Files struct {
	there  map[string]recipe.Value
	stamps map[string]int
}

// Sight is what is seen of a file in one look: whether it is there, its text, its stamp.
type Sight struct {
	Value recipe.Value
	Stamp int
}

// NewFiles makes a place without files.
func NewFiles() *Files {
	return &Files{there: map[string]recipe.Value{}, stamps: map[string]int{}}
}

// Edit gives a file a text (P5). An edit to the text that it has is an edit too.
func (f *Files) Edit(name, text string) api.Errno {
	if !check.Name(name) {
		return api.ErrName
	}
	if !check.Text(text) {
		return api.ErrText
	}
	if !f.there[name].There && len(f.there) >= api.MaxFiles {
		return api.ErrMany
	}
	f.there[name] = recipe.Value{There: true, Text: text}
	f.stamps[name]++
	return api.OK
}

// Remove takes a file away (P5). Its stamp stays, and goes on: else one that was taken away and made anew
// would look as if nobody had touched it.
func (f *Files) Remove(name string) api.Errno {
	if !check.Name(name) {
		return api.ErrName
	}
	if !f.there[name].There {
		return api.ErrNone
	}
	delete(f.there, name)
	f.stamps[name]++
	return api.OK
}

// See looks at a file, which need not be there.
func (f *Files) See(name string) Sight {
	return Sight{Value: f.there[name], Stamp: f.stamps[name]}
}
