package float

import (
	"commonform/api"
	"commonform/integer"
)

// Neg returns a float with the opposite sign.
func Neg(f Format, x uint64) (uint64, api.Errno) {
	if e := check(f, x); e != api.OK {
		return 0, e
	}
	return x ^ f.sign(), api.OK
}

// Add returns the sum of two floats.
func Add(f Format, x, y uint64) (uint64, api.Errno) {
	if e := check(f, x, y); e != api.OK {
		return 0, e
	}
	p, q := split(f, x), split(f, y)
	e := min(p.e, q.e)
	sum := p.at(e).Add(q.at(e))
	if sum.Sign() == 0 {
		return zero(f, x == f.sign() && y == f.sign()), api.OK
	}
	return round(f, sum.Sign() < 0, sum.Abs().Mul(twos(e)), twos(-e))
}

// at returns the value in units of 2^e; e is not above the exponent.
func (p parts) at(e int) integer.Int {
	m := p.significand().Mul(twos(p.e - e))
	if p.negative {
		return m.Neg()
	}
	return m
}

// Sub returns the difference of two floats.
func Sub(f Format, x, y uint64) (uint64, api.Errno) {
	if e := check(f, x, y); e != api.OK {
		return 0, e
	}
	return Add(f, x, y^f.sign())
}

// Mul returns the product of two floats.
func Mul(f Format, x, y uint64) (uint64, api.Errno) {
	if e := check(f, x, y); e != api.OK {
		return 0, e
	}
	p, q := split(f, x), split(f, y)
	negative := p.negative != q.negative
	if p.m == 0 || q.m == 0 {
		return zero(f, negative), api.OK
	}
	e := p.e + q.e
	return round(f, negative, p.significand().Mul(q.significand()).Mul(twos(e)), twos(-e))
}

// Div returns the quotient of two floats.
func Div(f Format, x, y uint64) (uint64, api.Errno) {
	if e := check(f, x, y); e != api.OK {
		return 0, e
	}
	p, q := split(f, x), split(f, y)
	negative := p.negative != q.negative
	switch {
	case q.m == 0:
		return 0, api.ErrZero
	case p.m == 0:
		return zero(f, negative), api.OK
	}
	e := p.e - q.e
	return round(f, negative, p.significand().Mul(twos(e)), q.significand().Mul(twos(-e)))
}

// Root returns the square root of a float.
func Root(f Format, x uint64) (uint64, api.Errno) {
	if e := check(f, x); e != api.OK {
		return 0, e
	}
	p := split(f, x)
	switch {
	case p.m == 0:
		return x, api.OK
	case p.negative:
		return 0, api.ErrArg
	}
	// The exponent becomes even, and the significand so long that its root has more bits than a float. One further bit stands for all that the root has behind them.
	more := 2*(f.fraction()+3) + p.e&1
	m := p.significand().Mul(twos(more))
	r, _ := m.Root()
	n := r.Add(r)
	if r.Mul(r).Cmp(m) != 0 {
		n = n.Add(integer.New(1))
	}
	e := (p.e-more)/2 - 1
	return round(f, false, n.Mul(twos(e)), twos(-e))
}

// Compare compares two floats, exactly.
func Compare(f Format, x uint64, g Format, y uint64) (int, api.Errno) {
	if !f.known() || !g.known() {
		return 0, api.ErrArg
	}
	if e := check(f, x); e != api.OK {
		return 0, e
	}
	if e := check(g, y); e != api.OK {
		return 0, e
	}
	p, q := split(f, x), split(g, y)
	e := min(p.e, q.e)
	return p.at(e).Cmp(q.at(e)), api.OK
}
