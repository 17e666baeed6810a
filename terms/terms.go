// Package terms has what several layers must know of types ahead of their order: names, and the places named by infer.
package terms

import (
	"slices"
	"strings"

	"plinth/api"
	"plinth/scan"
)

// IsName tells whether s is a name of a type or a variable: a name as written, with any number of ' behind it.
func IsName(s string) bool {
	return scan.IsName(strings.TrimRight(s, "'"))
}

// HasInfer tells whether t is, or has, a place named by infer.
func HasInfer(t *api.Type) bool {
	if t.Kind == api.KInfer {
		return true
	}
	for i := range t.Parts {
		if !pattern(t, i) && HasInfer(&t.Parts[i]) {
			return true
		}
	}
	for i := range t.Fields {
		if HasInfer(&t.Fields[i].Type) {
			return true
		}
	}
	return false
}

// pattern tells whether the part i of t is what a KCond asks for: its places are its own.
func pattern(t *api.Type, i int) bool {
	return t.Kind == api.KCond && i == 1
}

// Infers tells the names of the places named by infer that t is or has, each once, rising.
func Infers(t api.Type) []string {
	var names []string
	infers(&t, &names)
	slices.Sort(names)
	return slices.Compact(names)
}

func infers(t *api.Type, names *[]string) {
	if t.Kind == api.KInfer {
		*names = append(*names, t.Text)
	}
	for i := range t.Parts {
		if !pattern(t, i) {
			infers(&t.Parts[i], names)
		}
	}
	for i := range t.Fields {
		infers(&t.Fields[i].Type, names)
	}
}
