// Package kiln: whole sets of what is built, whenever files are edited: see DOC.md.
package kiln

import (
	"kiln/api"
	"kiln/build"
	"kiln/check"
	"kiln/recipe"
)

// Kiln has rules, files, and a published set.
type Kiln struct{}

// Right tells whether rules are right (P3).
func Right(rules []api.Rule) (api.Errno, int) { return check.Rules(rules) }

// Clean tells the results of rules and files (P4).
func Clean(rules []api.Rule, files []api.File) ([]api.Result, api.Errno) {
	if e, _ := check.Rules(rules); e != api.OK {
		return nil, e
	}
	if e := check.Files(files); e != api.OK {
		return nil, e
	}
	return build.Results(rules, asSources(files)), api.OK
}

func asSources(files []api.File) map[string]recipe.Value {
	sources := make(map[string]recipe.Value, len(files))
	for _, file := range files {
		sources[file.Name] = recipe.Value{There: true, Text: file.Text}
	}
	return sources
}

// New makes a kiln (P5).
func New(rules []api.Rule) (*Kiln, api.Errno) { return nil, api.OK }

// Edit edits a file (P5).
func (k *Kiln) Edit(name string, text string) api.Errno { return api.OK }

// Remove takes a file away (P5).
func (k *Kiln) Remove(name string) api.Errno { return api.OK }

// Tick lets time go on (P5).
func (k *Kiln) Tick(n int) api.Errno { return api.OK }

// Work does one thing (P6).
func (k *Kiln) Work() api.Did { return api.Did{} }

// Read tells the published set (P7).
func (k *Kiln) Read() api.Set { return api.Set{} }

// Look tells how it stands (P7).
func (k *Kiln) Look() api.Look { return api.Look{} }
