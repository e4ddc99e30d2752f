package forms

import (
	"unicode/utf8"

	"commonform/api"
)

// List returns a proper list.
func List(l []api.Form) api.Form { return Dotted(l, Nil()) }

// Dotted returns a list with a tail.
func Dotted(l []api.Form, tail api.Form) api.Form {
	if len(l) == 0 {
		return clone(tail)
	}
	return cons(cloneAll(l), clone(tail))
}

// cons takes the elements and the tail over as they are.
func cons(l []api.Form, tail api.Form) api.Form {
	if tail.Kind == api.FormCons {
		return api.Form{Kind: api.FormCons, Kids: append(l, tail.Kids...)}
	}
	return api.Form{Kind: api.FormCons, Kids: append(l, tail)}
}

// Spread returns the elements of a list, and its tail.
func Spread(f api.Form) ([]api.Form, api.Form) {
	last := len(f.Kids) - 1
	if f.Kind != api.FormCons || last < 1 {
		return nil, clone(f)
	}
	return cloneAll(f.Kids[:last]), clone(f.Kids[last])
}

// Items returns the elements of a proper list.
func Items(f api.Form) ([]api.Form, bool) {
	l, tail := Spread(f)
	if !IsNil(tail) {
		return nil, false
	}
	return l, true
}

// Call returns the list of a symbol of COMMON-LISP and its arguments.
func Call(name string, l []api.Form) api.Form {
	return cons([]api.Form{Symbol(commonLisp, name)}, List(l))
}

// Dimensions returns the dimensions of an array.
func Dimensions(f api.Form) ([]int, api.Errno) {
	switch f.Kind {
	case api.FormString, api.FormBits, api.FormVector, api.FormArray:
	default:
		return nil, api.ErrArg
	}
	if e := Check(f); e != api.OK {
		return nil, e
	}
	switch f.Kind {
	case api.FormString:
		return []int{utf8.RuneCountInString(f.Text)}, api.OK
	case api.FormBits:
		return []int{len(f.Text)}, api.OK
	case api.FormVector:
		return []int{len(f.Kids)}, api.OK
	}
	l, _ := dimensions(f.Text)
	return l, api.OK
}
