// Package forms is about forms as plain trees and as graphs: their errors, lists, labels and references, and which objects are the same. See shared/doc/01-forms.md.
package forms

import (
	"iter"

	"commonform/api"
)

// MaxRank is the greatest number of dimensions of an array.
const MaxRank = 7

// Codes of this layer.
const (
	ErrLabel  api.Errno = 30 // a reference to a label that is not there, or a label of nothing
	ErrCircle api.Errno = 31 // a form that comes back to itself
)

const commonLisp = "COMMON-LISP"

// walk comes to the nodes of a form one by one, each with its depth.
func walk(f api.Form) iter.Seq2[api.Form, int] {
	return func(yield func(api.Form, int) bool) { visit(f, 1, yield) }
}

func visit(f api.Form, depth int, yield func(api.Form, int) bool) bool {
	if !yield(f, depth) {
		return false
	}
	for _, kid := range f.Kids {
		if !visit(kid, depth+1, yield) {
			return false
		}
	}
	return true
}

// Size returns the number of nodes of a form, and its depth.
func Size(f api.Form) (nodes, depth int) {
	for _, d := range walk(f) {
		nodes++
		depth = max(depth, d)
	}
	return nodes, depth
}

// tooLarge reports whether a form has too many nodes, or too great a depth. It looks at no more of it than it has to.
func tooLarge(f api.Form) bool {
	nodes := 0
	for _, depth := range walk(f) {
		nodes++
		if nodes > api.MaxForm || depth > api.MaxDepth {
			return true
		}
	}
	return false
}

// Symbol returns a symbol.
func Symbol(home, name string) api.Form {
	return api.Form{Kind: api.FormSymbol, Text: name, Home: home}
}

// Nil returns NIL.
func Nil() api.Form { return Symbol(commonLisp, "NIL") }

// IsNil reports whether a form is NIL.
func IsNil(f api.Form) bool { return Is(f, commonLisp, "NIL") }

// Is reports whether a form is a symbol.
func Is(f api.Form, home, name string) bool {
	return f.Kind == api.FormSymbol && f.Text == name && f.Home == home
}

// Number reports whether a form is a number.
func Number(f api.Form) bool { return isNumber(f.Kind) }

func isNumber(kind int) bool { return kind >= api.FormInt && kind <= api.FormComplex }

// hasIdentity reports whether objects of a kind can be told apart although they are equal.
func hasIdentity(kind int) bool { return kind >= api.FormString && kind <= api.FormArray }

// Equal reports whether two forms are equal as trees.
func Equal(a, b api.Form) bool {
	if a.Kind != b.Kind || a.Text != b.Text || a.Home != b.Home || len(a.Kids) != len(b.Kids) {
		return false
	}
	for i, kid := range a.Kids {
		if !Equal(kid, b.Kids[i]) {
			return false
		}
	}
	return true
}

// clone returns a form of its own memory.
func clone(f api.Form) api.Form {
	f.Kids = cloneAll(f.Kids)
	return f
}

func cloneAll(l []api.Form) []api.Form {
	var out []api.Form
	for _, f := range l {
		out = append(out, clone(f))
	}
	return out
}
