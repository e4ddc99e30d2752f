package reader

import (
	"commonform/api"
	"commonform/forms"
)

// nodes returns the number of nodes of a form; of one with more than a limit just a number above it.
func nodes(f api.Form, limit int) int {
	n := 1
	for _, kid := range f.Kids {
		if n > limit {
			break
		}
		n += nodes(kid, limit-n)
	}
	return n
}

// hasLabel reports whether there is a FormLabel in a form.
func hasLabel(f api.Form) bool {
	if f.Kind == api.FormLabel {
		return true
	}
	for _, kid := range f.Kids {
		if hasLabel(kid) {
			return true
		}
	}
	return false
}

// copied returns a form of its own memory.
func copied(f api.Form) api.Form { return forms.Dotted(nil, f) }

// items returns the elements of a proper list, as they are, since they may be larger than any form.
func items(f api.Form) ([]api.Form, bool) {
	last := len(f.Kids) - 1
	switch {
	case forms.IsNil(f):
		return nil, true
	case f.Kind != api.FormCons || last < 1 || !forms.IsNil(f.Kids[last]):
		return nil, false
	}
	return f.Kids[:last], true
}
