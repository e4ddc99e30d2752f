package core

import (
	"commonform/api"
	"commonform/forms"
)

// functions are names of local functions, whose numbers are those of variables.
const functions = kinds

// isSpecialHere is the number of a variable that is special in a scope.
const isSpecialHere = -1

// scope is a name that means a number, within other scopes.
type scope struct {
	up     *scope
	kind   int
	name   api.Form
	number int
}

// with returns the scope in which a name means a number.
func (s *scope) with(kind int, name api.Form, number int) *scope {
	return &scope{s, kind, name, number}
}

// special returns the scope in which variables are special.
func (s *scope) special(names ...api.Form) *scope {
	for _, name := range names {
		s = s.with(variables, name, isSpecialHere)
	}
	return s
}

// find returns what a name means in the innermost scope of it, and whether there is one.
func (s *scope) find(kind int, name api.Form) (int, bool) {
	var walk func(x *scope) (int, bool)
	walk = func(x *scope) (int, bool) {
		switch {
		case x == nil:
			return 0, false
		case x.kind == kind && forms.Equal(x.name, name):
			return x.number, true
		}
		return walk(x.up)
	}
	return walk(s)
}

// lexical returns the number of a lexical variable, and whether a name means one.
func (s *scope) lexical(name api.Form) (int, bool) {
	n, ok := s.find(variables, name)
	return n, ok && n != isSpecialHere
}
