package number

import (
	"iter"
	"math/bits"

	"commonform/api"
	"commonform/float"
	"commonform/integer"
	"commonform/rational"
)

// maxPower is the greatest exponent.
const maxPower = 4096

// Add returns x + y.
func Add(x, y api.Form) (api.Form, api.Errno) {
	return combine(x, y, func(s *steps, v, w number) number { return s.termwise(sum(), v, w) })
}

// Sub returns x - y.
func Sub(x, y api.Form) (api.Form, api.Errno) {
	return combine(x, y, func(s *steps, v, w number) number { return s.termwise(difference(), v, w) })
}

// Mul returns the product of x and y.
func Mul(x, y api.Form) (api.Form, api.Errno) { return combine(x, y, (*steps).multiply) }

// Div returns x/y.
func Div(x, y api.Form) (api.Form, api.Errno) { return combine(x, y, (*steps).divide) }

func combine(x, y api.Form, op func(s *steps, v, w number) number) (api.Form, api.Errno) {
	l, e := parseAll(x, y)
	if e != api.OK {
		return api.Form{}, e
	}
	var s steps
	out := op(&s, l[0], l[1])
	return out.form(s.e)
}

// termwise makes an operation with both parts.
func (s *steps) termwise(op operation, v, w number) number {
	re := s.do(op, v.parts[0], w.parts[0])
	if !v.complex && !w.complex {
		return ofReal(re)
	}
	im := s.do(op, v.parts[1], w.parts[1])
	return s.pair(re, im)
}

func (s *steps) multiply(v, w number) number {
	if !v.complex && !w.complex {
		return ofReal(s.do(product(), v.parts[0], w.parts[0]))
	}
	a, b, c, d := v.parts[0], v.parts[1], w.parts[0], w.parts[1]
	times := product()
	ac := s.do(times, a, c)
	bd := s.do(times, b, d)
	re := s.do(difference(), ac, bd)
	ad := s.do(times, a, d)
	bc := s.do(times, b, c)
	im := s.do(sum(), ad, bc)
	return s.pair(re, im)
}

func (s *steps) divide(v, w number) number {
	over := quotient()
	if !v.complex && !w.complex {
		return ofReal(s.do(over, v.parts[0], w.parts[0]))
	}
	a, b, c, d := v.parts[0], v.parts[1], w.parts[0], w.parts[1]
	times := product()
	cc := s.do(times, c, c)
	dd := s.do(times, d, d)
	n := s.do(sum(), cc, dd)
	ac := s.do(times, a, c)
	bd := s.do(times, b, d)
	re := s.do(sum(), ac, bd)
	re = s.do(over, re, n)
	bc := s.do(times, b, c)
	ad := s.do(times, a, d)
	im := s.do(difference(), bc, ad)
	im = s.do(over, im, n)
	return s.pair(re, im)
}

// Neg returns -x.
func Neg(x api.Form) (api.Form, api.Errno) {
	v, e := parse(x)
	for i, part := range v.parts {
		v.parts[i] = part.neg()
	}
	return v.form(e)
}

// Power returns x to the power of n.
func Power(x api.Form, n int) (api.Form, api.Errno) {
	v, e := parse(x)
	switch {
	case e != api.OK:
		return api.Form{}, e
	case n < -maxPower || n > maxPower:
		return api.Form{}, api.ErrArg
	case n == 0:
		return small(1).form()
	case n < 0:
		p, e := Power(x, -n)
		if e != api.OK {
			return api.Form{}, e
		}
		one, _ := small(1).form()
		return Div(one, p)
	}
	var s steps
	out := s.power(v, n)
	return out.form(s.e)
}

// power returns v to the power of n, for n above 0.
func (s *steps) power(v number, n int) number {
	out := v
	for set := range furtherDigits(n) {
		out = s.limited(s.multiply(out, out))
		if set {
			out = s.limited(s.multiply(out, v))
		}
		if s.e != api.OK {
			break
		}
	}
	return out
}

// furtherDigits walks the binary digits of n behind the first one.
func furtherDigits(n int) iter.Seq[bool] {
	return func(yield func(bool) bool) {
		for i := bits.Len(uint(n)) - 2; i >= 0; i-- {
			if !yield(n>>i&1 == 1) {
				return
			}
		}
	}
}

// limited makes it ErrLarge if a product is too long.
func (s *steps) limited(v number) number {
	for _, x := range v.parts {
		long := max(x.ratio.Numerator().Length(), x.ratio.Denominator().Length())
		if s.e == api.OK && long > api.MaxBits {
			s.e = api.ErrLarge
		}
	}
	return v
}

// Root returns the square root of x.
func Root(x api.Form) (api.Form, api.Errno) {
	l, e := parseReals(x)
	if e != api.OK {
		return api.Form{}, e
	}
	if l[0].sign() >= 0 {
		r, e := root(l[0])
		return ofReal(r).form(e)
	}
	r, e := root(l[0].neg())
	s := steps{e}
	out := s.pair(r.zero(), r)
	return out.form(s.e)
}

// root returns the root of a number that is not below 0.
func root(x real) (real, api.Errno) {
	if x.kind != exact {
		bits, e := float.Root(formatOf(x.kind), x.bits)
		return real{kind: x.kind, bits: bits}, e
	}
	if r, e := x.ratio.Root(); e == api.OK {
		return exactly(r), api.OK
	}
	return nearest(single, likeRoot(x.ratio))
}

// likeRoot returns a fraction to which the same float is nearest as to the root of x, which is no fraction: the first bits of the root, more than a float has, and half a unit of the last one for all the rest.
func likeRoot(x rational.Ratio) rational.Ratio {
	const enough = 64
	n, d := x.Numerator(), x.Denominator()
	places := max(0, (enough-n.Length()+d.Length())/2)
	unit, _ := integer.New(1).Shift(places)
	q, _, _ := n.Mul(unit).Mul(unit).Divide(d)
	r, _ := q.Root()
	out, _ := rational.New(r.Add(r).Add(integer.New(1)), unit.Add(unit))
	return out
}

// Abs returns the absolute value of a real x.
func Abs(x api.Form) (api.Form, api.Errno) {
	l, e := parseReals(x)
	if e != api.OK {
		return api.Form{}, e
	}
	if l[0].negative() {
		return l[0].neg().form()
	}
	return l[0].form()
}

// negative reports whether x is below 0, or -0.
func (x real) negative() bool {
	if x.kind == exact {
		return x.ratio.Sign() < 0
	}
	_, _, sign, _ := float.Decode(formatOf(x.kind), x.bits)
	return sign < 0
}

// Signum returns the sign of a real x as a number of its kind.
func Signum(x api.Form) (api.Form, api.Errno) {
	l, e := parseReals(x)
	if e != api.OK {
		return api.Form{}, e
	}
	sign := l[0].sign()
	if sign == 0 {
		return l[0].form()
	}
	out, e := small(int64(sign)).as(l[0].kind)
	return ofReal(out).form(e)
}
