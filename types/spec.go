package types

import (
	"slices"
	"strings"
	"unicode/utf8"

	"commonform/api"
	"commonform/forms"
	"commonform/notation"
	"commonform/number"
)

// How a type is made.
const (
	byTest = iota
	ofAll
	ofAny
	ofNone
	ofConses
)

// spec is a type that was read: a test, which no cons passes; what is in all, in any, or in none of its parts; or the conses whose car and cdr are in its two parts, which have the numbers of their types.
type spec struct {
	how     int
	test    func(x api.Form) bool
	parts   []spec
	numbers [2]int
}

func tested(test func(x api.Form) bool) spec { return spec{how: byTest, test: test} }

func all() spec { return spec{how: ofAll} }

func both(a, b spec) spec { return spec{how: ofAll, parts: []spec{a, b}} }

func either(l ...spec) spec { return spec{how: ofAny, parts: l} }

func not(s spec) spec { return spec{how: ofNone, parts: []spec{s}} }

// isAll reports whether a type has been written as one with all objects.
func (s *spec) isAll() bool { return s.how == ofAll && len(s.parts) == 0 }

// holds reports whether what answers for tests and conses is of the type.
func (s *spec) holds(answer func(s *spec) bool) bool {
	switch s.how {
	case ofAll, ofAny, ofNone:
		decisive := s.how != ofAll
		for i := range s.parts {
			if s.parts[i].holds(answer) == decisive {
				return s.how == ofAny
			}
		}
		return s.how != ofAny
	}
	return answer(s)
}

// has reports whether an object is of the type.
func (s *spec) has(x api.Form) bool {
	return s.holds(func(s *spec) bool {
		if s.how == byTest {
			return s.test(x)
		}
		return x.Kind == api.FormCons && s.parts[0].has(x.Kids[0]) && s.parts[1].has(cdr(x))
	})
}

// cdr returns the cdr of a cons; it shares its memory.
func cdr(x api.Form) api.Form {
	if len(x.Kids) == 2 {
		return x.Kids[1]
	}
	return api.Form{Kind: api.FormCons, Kids: x.Kids[1:]}
}

// ofKinds is the type of all objects of some kinds.
func ofKinds(kinds ...int) spec {
	return tested(func(x api.Form) bool { return slices.Contains(kinds, x.Kind) })
}

func symbols() spec {
	return tested(func(x api.Form) bool { return x.Kind == api.FormSymbol && x.Home != opaque })
}

func keywords() spec {
	return tested(func(x api.Form) bool { return x.Kind == api.FormSymbol && x.Home == keyword })
}

// ofOpaque is the type of the objects without a form that some names stand for.
func ofOpaque(names ...string) spec {
	return tested(func(x api.Form) bool {
		return x.Kind == api.FormSymbol && x.Home == opaque && slices.Contains(names, x.Text)
	})
}

func equalTo(y api.Form) spec {
	return tested(func(x api.Form) bool { return forms.Equal(x, y) })
}

// bound is an end of a range of numbers; the zero value is none.
type bound struct {
	isSet, isOpen bool
	value         api.Form
}

// allows reports whether a number is on the right side of a bound: the one to which c, the sign of the number less the bound, belongs.
func (b bound) allows(x api.Form, right int) bool {
	if !b.isSet {
		return true
	}
	c, _ := number.Cmp(x, b.value)
	return c == right || c == 0 && !b.isOpen
}

// between is the type of the numbers of some kinds that lie between two bounds.
func between(low, high bound, kinds ...int) spec {
	return tested(func(x api.Form) bool {
		return slices.Contains(kinds, x.Kind) && low.allows(x, 1) && high.allows(x, -1)
	})
}

// anySize stands for each dimension.
const anySize = -1

// fit is the type of the arrays of some kinds with these dimensions.
func fit(dims []int, kinds ...int) spec {
	return tested(func(x api.Form) bool {
		if !slices.Contains(kinds, x.Kind) {
			return false
		}
		return slices.EqualFunc(dimensions(x), dims, func(d, want int) bool { return want == anySize || d == want })
	})
}

// dimensions returns the dimensions of an array.
func dimensions(x api.Form) []int {
	switch x.Kind {
	case api.FormString:
		return []int{utf8.RuneCountInString(x.Text)}
	case api.FormBits:
		return []int{len(x.Text)}
	case api.FormVector:
		return []int{len(x.Kids)}
	}
	return notation.Dimensions(x.Text)
}

// What is left to ask of a type.
const (
	never  = "0"
	always = "1"
)

// rest returns what is left to ask of a type, if part of it is known: always, never, or a text that says what. Equal texts ask the same.
func (s *spec) rest(answer func(s *spec) string) string {
	unit, zero, sign := always, never, "&"
	switch s.how {
	case byTest, ofConses:
		return answer(s)
	case ofAny, ofNone:
		unit, zero, sign = never, always, "|"
	}
	var l []string
	for i := range s.parts {
		switch r := s.parts[i].rest(answer); r {
		case zero:
			return s.turned(zero)
		case unit:
		default:
			l = append(l, r)
		}
	}
	if len(l) == 0 {
		return s.turned(unit)
	}
	return s.turned(sign + "(" + strings.Join(l, " ") + ")")
}

// turned returns the opposite of what a type of no part asks, and of others the same.
func (s *spec) turned(rest string) string {
	switch {
	case s.how != ofNone:
		return rest
	case rest == always:
		return never
	case rest == never:
		return always
	}
	return "!" + rest
}
