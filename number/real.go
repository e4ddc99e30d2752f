package number

import (
	"commonform/api"
	"commonform/float"
	"commonform/integer"
	"commonform/rational"
)

// Kinds of real numbers, in the order of contagion.
const (
	exact = iota
	single
	double
	kinds
)

// real is a real number: a fraction, or the bits of a float.
type real struct {
	kind  int
	ratio rational.Ratio
	bits  uint64
}

func exactly(x rational.Ratio) real { return real{ratio: x} }

func small(n int64) real { return exactly(rational.Of(integer.New(n))) }

// formatOf returns the format of a kind of floats.
func formatOf(kind int) float.Format {
	if kind == single {
		return float.Single
	}
	return float.Double
}

// digitsOf returns how many hexadecimal digits the bits of a kind of floats have.
func digitsOf(kind int) int { return 8 * kind }

// value returns the exact value.
func (x real) value() rational.Ratio {
	if x.kind == exact {
		return x.ratio
	}
	v, _ := float.Value(formatOf(x.kind), x.bits)
	return v
}

// nearest returns the number of a kind that is nearest to a fraction.
func nearest(kind int, x rational.Ratio) (real, api.Errno) {
	if kind == exact {
		return exactly(x), api.OK
	}
	bits, e := float.Nearest(formatOf(kind), x)
	return real{kind: kind, bits: bits}, e
}

// as returns x as a number of a kind.
func (x real) as(kind int) (real, api.Errno) {
	if x.kind == kind {
		return x, api.OK
	}
	if x.kind == exact || kind == exact {
		return nearest(kind, x.value())
	}
	bits, e := float.Convert(formatOf(x.kind), x.bits, formatOf(kind))
	return real{kind: kind, bits: bits}, e
}

// common returns both numbers behind contagion.
func common(x, y real) (a, b real, e api.Errno) {
	kind := max(x.kind, y.kind)
	a, e = x.as(kind)
	if e != api.OK {
		return real{}, real{}, e
	}
	b, e = y.as(kind)
	return a, b, e
}

// neg returns -x; of a float the one with the other sign.
func (x real) neg() real {
	if x.kind == exact {
		return exactly(x.ratio.Neg())
	}
	bits, _ := float.Neg(formatOf(x.kind), x.bits)
	return real{kind: x.kind, bits: bits}
}

// zero returns the 0 of the kind of x.
func (x real) zero() real { return real{kind: x.kind} }

func (x real) sign() int { return x.value().Sign() }

// operation has a closure for each common kind of two real numbers.
type operation [kinds]func(x, y real) (real, api.Errno)

// onFloats returns an operation of layer float as one of a kind of real numbers.
func onFloats(kind int, op func(f float.Format, x, y uint64) (uint64, api.Errno)) func(x, y real) (real, api.Errno) {
	return func(x, y real) (real, api.Errno) {
		bits, e := op(formatOf(kind), x.bits, y.bits)
		return real{kind: kind, bits: bits}, e
	}
}

// onRatios returns an operation of fractions as one of real numbers.
func onRatios(op func(x, y rational.Ratio) rational.Ratio) func(x, y real) (real, api.Errno) {
	return func(x, y real) (real, api.Errno) { return exactly(op(x.ratio, y.ratio)), api.OK }
}

func sum() operation {
	return operation{onRatios(rational.Ratio.Add), onFloats(single, float.Add), onFloats(double, float.Add)}
}

func difference() operation {
	return operation{onRatios(rational.Ratio.Sub), onFloats(single, float.Sub), onFloats(double, float.Sub)}
}

func product() operation {
	return operation{onRatios(rational.Ratio.Mul), onFloats(single, float.Mul), onFloats(double, float.Mul)}
}

func quotient() operation {
	divide := func(x, y real) (real, api.Errno) {
		q, e := x.ratio.Div(y.ratio)
		return exactly(q), e
	}
	return operation{divide, onFloats(single, float.Div), onFloats(double, float.Div)}
}

// steps makes one operation after the other; behind the first error it makes none.
type steps struct{ e api.Errno }

func (s *steps) do(op operation, x, y real) real {
	if s.e != api.OK {
		return real{}
	}
	a, b, e := common(x, y)
	if e == api.OK {
		a, e = op[a.kind](a, b)
	}
	s.e = e
	return a
}

// pair returns the complex number with two parts.
func (s *steps) pair(re, im real) number {
	if s.e != api.OK {
		return number{}
	}
	a, b, e := common(re, im)
	s.e = e
	if e != api.OK || b.kind == exact && b.ratio.Sign() == 0 {
		return ofReal(a)
	}
	return number{[2]real{a, b}, true}
}
