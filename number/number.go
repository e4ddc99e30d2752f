// Package number has the tower of numbers: integers, fractions, floats of two formats, and complex numbers, as data. See shared/doc/05-number.md.
package number

import (
	"strconv"
	"strings"

	"commonform/api"
	"commonform/float"
	"commonform/integer"
	"commonform/rational"
)

// number has the parts of a number; the second one of a real number is the integer 0.
type number struct {
	parts   [2]real
	complex bool
}

func ofReal(x real) number { return number{parts: [2]real{x}} }

// Check returns the error of a number.
func Check(x api.Form) api.Errno {
	_, e := parse(x)
	return e
}

// parse returns a number, or its error.
func parse(x api.Form) (number, api.Errno) {
	switch {
	case x.Kind < api.FormInt || x.Kind > api.FormComplex:
		return number{}, api.ErrType
	case hasLongText(x):
		return number{}, api.ErrLarge
	case x.Kind == api.FormComplex:
		return parseComplex(x)
	}
	r, ok := parseReal(x)
	if !ok {
		return number{}, api.ErrForm
	}
	return ofReal(r), api.OK
}

// parseAll returns numbers, or the first error.
func parseAll(forms ...api.Form) ([]number, api.Errno) {
	var out []number
	for _, x := range forms {
		v, e := parse(x)
		if e != api.OK {
			return nil, e
		}
		out = append(out, v)
	}
	return out, api.OK
}

// parseReals is like parseAll, and then ErrType if one of the numbers is complex.
func parseReals(forms ...api.Form) ([]real, api.Errno) {
	l, e := parseAll(forms...)
	if e != api.OK {
		return nil, e
	}
	var out []real
	for _, v := range l {
		if v.complex {
			return nil, api.ErrType
		}
		out = append(out, v.parts[0])
	}
	return out, api.OK
}

func hasLongText(x api.Form) bool {
	if len(x.Text) > api.MaxDigits {
		return true
	}
	for _, kid := range x.Kids {
		if hasLongText(kid) {
			return true
		}
	}
	return false
}

func parseComplex(x api.Form) (number, api.Errno) {
	if x.Home != "" || x.Text != "" || len(x.Kids) != 2 {
		return number{}, api.ErrForm
	}
	re, ok := parseReal(x.Kids[0])
	im, also := parseReal(x.Kids[1])
	if !ok || !also || re.kind != im.kind || im.kind == exact && im.ratio.Sign() == 0 {
		return number{}, api.ErrForm
	}
	return number{[2]real{re, im}, true}, api.OK
}

// parseReal returns a real number, and whether the form is one.
func parseReal(x api.Form) (real, bool) {
	if x.Home != "" || len(x.Kids) > 0 {
		return real{}, false
	}
	switch x.Kind {
	case api.FormInt, api.FormRatio:
		v, e := rational.Parse(x.Text, 10)
		if e != api.OK || v.Whole() != (x.Kind == api.FormInt) {
			return real{}, false
		}
		s, _ := v.Text(10)
		return exactly(v), s == x.Text
	case api.FormSingle:
		return parseBits(single, x.Text)
	case api.FormDouble:
		return parseBits(double, x.Text)
	}
	return real{}, false
}

func parseBits(kind int, text string) (real, bool) {
	if len(text) != digitsOf(kind) || strings.Trim(text, "0123456789abcdef") != "" {
		return real{}, false
	}
	bits, _ := strconv.ParseUint(text, 16, 64)
	_, e := float.Value(formatOf(kind), bits)
	return real{kind: kind, bits: bits}, e == api.OK
}

// form returns a number as a form; e is an error that came ahead.
func (v number) form(e api.Errno) (api.Form, api.Errno) {
	if e != api.OK {
		return api.Form{}, e
	}
	re, e := v.parts[0].form()
	if !v.complex || e != api.OK {
		return re, e
	}
	im, e := v.parts[1].form()
	if e != api.OK {
		return api.Form{}, e
	}
	return api.Form{Kind: api.FormComplex, Kids: []api.Form{re, im}}, api.OK
}

func (x real) form() (api.Form, api.Errno) {
	if x.kind != exact {
		s := strconv.FormatUint(x.bits, 16)
		return api.Form{Kind: x.formKind(), Text: strings.Repeat("0", digitsOf(x.kind)-len(s)) + s}, api.OK
	}
	s, _ := x.ratio.Text(10)
	if len(s) > api.MaxDigits {
		return api.Form{}, api.ErrLarge
	}
	return api.Form{Kind: x.formKind(), Text: s}, api.OK
}

// formKind returns the kind of form that a real number is.
func (x real) formKind() int {
	switch {
	case x.kind == single:
		return api.FormSingle
	case x.kind == double:
		return api.FormDouble
	case x.ratio.Whole():
		return api.FormInt
	}
	return api.FormRatio
}

// ofInteger returns an integer as a form.
func ofInteger(n integer.Int) (api.Form, api.Errno) {
	return exactly(rational.Of(n)).form()
}
