package number

import (
	"commonform/api"
	"commonform/float"
	"commonform/integer"
	"commonform/rational"
)

// Ways of rounding a quotient to an integer.
const (
	Floor = iota
	Ceiling
	Truncate
	Round
)

// Quotient returns x/y, rounded to an integer, and the remainder.
func Quotient(way int, x, y api.Form) (quotient, remainder api.Form, e api.Errno) {
	l, e := parseReals(x, y)
	if e != api.OK {
		return api.Form{}, api.Form{}, e
	}
	q, r, e := l[0].value().Quotient(way, l[1].value())
	if e != api.OK {
		return api.Form{}, api.Form{}, e
	}
	a, _, e := common(l[0], l[1])
	if e != api.OK {
		return api.Form{}, api.Form{}, e
	}
	rest, e := nearest(a.kind, r)
	if e != api.OK {
		return api.Form{}, api.Form{}, e
	}
	quotient, e = ofInteger(q)
	if e != api.OK {
		return api.Form{}, api.Form{}, e
	}
	remainder, e = rest.form()
	if e != api.OK {
		return api.Form{}, api.Form{}, e
	}
	return quotient, remainder, api.OK
}

// Complex returns the number with a real and an imaginary part.
func Complex(re, im api.Form) (api.Form, api.Errno) {
	l, e := parseReals(re, im)
	if e != api.OK {
		return api.Form{}, e
	}
	var s steps
	out := s.pair(l[0], l[1])
	return out.form(s.e)
}

// Real returns the real part of x.
func Real(x api.Form) (api.Form, api.Errno) {
	v, e := parse(x)
	return ofReal(v.parts[0]).form(e)
}

// Imaginary returns the imaginary part of x.
func Imaginary(x api.Form) (api.Form, api.Errno) {
	v, e := parse(x)
	if !v.complex {
		return ofReal(v.parts[0].zero()).form(e)
	}
	return ofReal(v.parts[1]).form(e)
}

// Conjugate returns the conjugate of x.
func Conjugate(x api.Form) (api.Form, api.Errno) {
	v, e := parse(x)
	v.parts[1] = v.parts[1].neg()
	return v.form(e)
}

// Numerator returns the numerator of a rational x.
func Numerator(x api.Form) (api.Form, api.Errno) {
	v, e := parseRational(x)
	if e != api.OK {
		return api.Form{}, e
	}
	return ofInteger(v.Numerator())
}

// Denominator returns the denominator of a rational x.
func Denominator(x api.Form) (api.Form, api.Errno) {
	v, e := parseRational(x)
	if e != api.OK {
		return api.Form{}, e
	}
	return ofInteger(v.Denominator())
}

func parseRational(x api.Form) (rational.Ratio, api.Errno) {
	l, e := parseReals(x)
	if e != api.OK {
		return rational.Ratio{}, e
	}
	if l[0].kind != exact {
		return rational.Ratio{}, api.ErrType
	}
	return l[0].ratio, api.OK
}

// Rational returns the exact value of a real x.
func Rational(x api.Form) (api.Form, api.Errno) {
	l, e := parseReals(x)
	if e != api.OK {
		return api.Form{}, e
	}
	return exactly(l[0].value()).form()
}

// Rationalize returns the simplest rational number that is read as the float x.
func Rationalize(x api.Form) (api.Form, api.Errno) {
	l, e := parseReals(x)
	if e != api.OK {
		return api.Form{}, e
	}
	v := l[0]
	switch {
	case v.kind == exact:
		return v.form()
	case v.sign() == 0:
		return small(0).form()
	case v.sign() < 0:
		return exactly(simplest(v.neg()).Neg()).form()
	}
	return exactly(simplest(v)).form()
}

// simplest returns the simplest fraction to which a float above 0 is nearest.
func simplest(x real) rational.Ratio {
	f, v := formatOf(x.kind), x.value()
	below, _ := float.Next(f, x.bits, false)
	low, _ := float.Value(f, below)
	high := v.Add(v).Sub(low) // as if there were floats beyond the greatest one
	if above, e := float.Next(f, x.bits, true); e == api.OK {
		high, _ = float.Value(f, above)
	}
	low, high = middle(low, v), middle(v, high)
	// Of a float with an odd significand both ends belong to the neighbours. They are moved by less than the distance of any fraction in between that is at least as simple as x.
	if m, _, _, _ := float.Decode(f, x.bits); m.Odd() {
		low = low.Add(less(v, low))
		high = high.Sub(less(v, high))
	}
	out, _ := rational.Simplest(low, high)
	return out
}

func middle(x, y rational.Ratio) rational.Ratio {
	out, _ := x.Add(y).Div(rational.Of(integer.New(2)))
	return out
}

// less returns a fraction that is less than the distance of different fractions with at most the denominators of x and y.
func less(x, y rational.Ratio) rational.Ratio {
	d := x.Denominator().Mul(y.Denominator())
	out, _ := rational.New(integer.New(1), d.Add(d))
	return out
}

// Float returns x as a float of a kind.
func Float(x api.Form, kind int) (api.Form, api.Errno) {
	v, e := parse(x)
	if e != api.OK {
		return api.Form{}, e
	}
	to := single
	switch kind {
	case api.FormSingle:
	case api.FormDouble:
		to = double
	default:
		return api.Form{}, api.ErrArg
	}
	for i, part := range v.parts {
		v.parts[i], e = part.as(to)
		if e != api.OK {
			return api.Form{}, e
		}
	}
	return v.form(api.OK)
}
