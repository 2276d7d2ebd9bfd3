package check

import "kiln/api"

// Files tells the error of files (P4). Each error is looked for in all files ahead of the next error:
// it is the errors that have an order here, not the files.
func Files(files []api.File) api.Errno {
	if len(files) > api.MaxFiles {
		return api.ErrMany
	}
	for _, file := range files {
		if !Name(file.Name) {
			return api.ErrName
		}
	}
	for i, file := range files {
		if hasFile(files[:i], file.Name) {
			return api.ErrTwice
		}
	}
	for _, file := range files {
		if !Text(file.Text) {
			return api.ErrText
		}
	}
	return api.OK
}

func hasFile(files []api.File, name string) bool {
	for _, file := range files {
		if file.Name == name {
			return true
		}
	}
	return false
}
