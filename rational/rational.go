// Package rational has fractions of any size. See shared/doc/03-rational.md.
package rational

import (
	"math"

	"commonform/api"
	"commonform/integer"
)

// Ratio is a fraction of any size. The zero value is 0.
type Ratio struct {
	n, d integer.Int // in lowest terms, d above 0; but d is 0 in place of 1, so that the zero value is a fraction
}

// New returns n/d.
func New(n, d integer.Int) (Ratio, api.Errno) {
	if d.Sign() == 0 {
		return Ratio{}, api.ErrZero
	}
	return lowest(n, d), api.OK
}

// lowest returns n/d; d is not 0.
func lowest(n, d integer.Int) Ratio {
	g := n.Gcd(d)
	return coprime(part(n, g), part(d, g))
}

// coprime returns n/d for numbers without a common divisor; d is not 0.
func coprime(n, d integer.Int) Ratio {
	if d.Sign() < 0 {
		n, d = n.Neg(), d.Neg()
	}
	if isOne(d) {
		return Of(n)
	}
	return Ratio{n, d}
}

func isOne(x integer.Int) bool {
	n, ok := x.Int64()
	return ok && n == 1
}

// part returns x/g; g divides x, and is not 0.
func part(x, g integer.Int) integer.Int {
	if isOne(g) {
		return x
	}
	q, _, _ := x.Divide(g)
	return q
}

// Of returns the fraction that is an integer.
func Of(n integer.Int) Ratio { return Ratio{n: n} }

// Numerator returns the numerator in lowest terms.
func (x Ratio) Numerator() integer.Int { return x.n }

// Denominator returns the denominator in lowest terms.
func (x Ratio) Denominator() integer.Int {
	if x.Whole() {
		return integer.New(1)
	}
	return x.d
}

// Whole reports whether x is an integer.
func (x Ratio) Whole() bool { return x.d.Sign() == 0 }

// Sign returns -1, 0 or 1.
func (x Ratio) Sign() int { return x.n.Sign() }

// Cmp compares x and y.
func (x Ratio) Cmp(y Ratio) int {
	if x.Sign() != y.Sign() {
		return integer.New(int64(x.Sign())).Cmp(integer.New(int64(y.Sign())))
	}
	return x.over(y).Cmp(y.over(x))
}

// over returns the numerator that x has over the product of both denominators.
func (x Ratio) over(y Ratio) integer.Int {
	if y.Whole() {
		return x.n
	}
	return x.n.Mul(y.d)
}

// Neg returns -x.
func (x Ratio) Neg() Ratio { return Ratio{x.n.Neg(), x.d} }

// Abs returns the absolute value of x.
func (x Ratio) Abs() Ratio { return Ratio{x.n.Abs(), x.d} }

// Add returns x + y.
func (x Ratio) Add(y Ratio) Ratio {
	d, c := x.Denominator(), y.Denominator()
	g := d.Gcd(c)
	n := x.n.Mul(part(c, g)).Add(y.n.Mul(part(d, g)))
	// What n and the common denominator still share divides g.
	h := n.Gcd(g)
	return coprime(part(n, h), part(d, g).Mul(part(c, h)))
}

// Sub returns x - y.
func (x Ratio) Sub(y Ratio) Ratio { return x.Add(y.Neg()) }

// Mul returns the product of x and y.
func (x Ratio) Mul(y Ratio) Ratio {
	d, c := x.Denominator(), y.Denominator()
	g, h := x.n.Gcd(c), y.n.Gcd(d)
	return coprime(part(x.n, g).Mul(part(y.n, h)), part(d, h).Mul(part(c, g)))
}

// Div returns x/y.
func (x Ratio) Div(y Ratio) (Ratio, api.Errno) {
	if y.Sign() == 0 {
		return Ratio{}, api.ErrZero
	}
	return x.Mul(y.inverse()), api.OK
}

// inverse returns 1/x; x is not 0.
func (x Ratio) inverse() Ratio { return coprime(x.Denominator(), x.n) }

// Power returns x to the power of n.
func (x Ratio) Power(n int) (Ratio, api.Errno) {
	if n < 0 {
		if x.Sign() == 0 {
			return Ratio{}, api.ErrZero
		}
		x = x.inverse()
		if n == math.MinInt {
			n += 2 // has the same parity, and is as far beyond all limits
		}
		n = -n
	}
	top, e := x.n.Power(n)
	if e != api.OK {
		return Ratio{}, e
	}
	bottom, e := x.Denominator().Power(n)
	if e != api.OK {
		return Ratio{}, e
	}
	return coprime(top, bottom), api.OK
}

// Root returns the square root of x, if it is a fraction.
func (x Ratio) Root() (Ratio, api.Errno) {
	if x.Sign() < 0 {
		return Ratio{}, api.ErrArg
	}
	top, ok := exactRoot(x.n)
	if !ok {
		return Ratio{}, api.ErrNone
	}
	bottom, ok := exactRoot(x.Denominator())
	if !ok {
		return Ratio{}, api.ErrNone
	}
	return coprime(top, bottom), api.OK
}

// exactRoot returns the root of a number that is not below 0, and whether it is an integer.
func exactRoot(x integer.Int) (integer.Int, bool) {
	r, _ := x.Root()
	return r, r.Mul(r).Cmp(x) == 0
}
