// Package float has floating-point numbers as IEEE 754 has them, by their bits. See shared/doc/04-float.md.
package float

import (
	"iter"
	"math/bits"

	"commonform/api"
	"commonform/integer"
	"commonform/rational"
)

// Format is a format of floats.
type Format int

// The formats.
const (
	Single Format = iota
	Double
)

// The widths of the fields of each format; the sign bit stands above both.
var (
	exponentWidth = [...]int{Single: 8, Double: 11}
	fractionWidth = [...]int{Single: 23, Double: 52}
)

func (f Format) known() bool { return f == Single || f == Double }

// fraction returns the number of significand bits that are written.
func (f Format) fraction() int { return fractionWidth[f] }

// sign returns the sign bit.
func (f Format) sign() uint64 { return 1 << (exponentWidth[f] + fractionWidth[f]) }

// infinity returns the bits of the infinity, with which those of the finite floats end.
func (f Format) infinity() uint64 { return f.sign() - 1<<fractionWidth[f] }

// least returns the least exponent of the last bit of a float.
func (f Format) least() int { return 2 - 1<<(exponentWidth[f]-1) - fractionWidth[f] }

// check returns the error of floats of a format.
func check(f Format, floats ...uint64) api.Errno {
	if !f.known() {
		return api.ErrArg
	}
	for _, x := range floats {
		rest := x &^ f.sign()
		if rest >= f.infinity() { // also if there are bits above the sign
			return api.ErrArg
		}
	}
	return api.OK
}

// parts of a float: its sign, significand and exponent.
type parts struct {
	negative bool
	m        uint64
	e        int
}

func split(f Format, x uint64) parts {
	p := parts{x&f.sign() != 0, x & (1<<f.fraction() - 1), f.least()}
	if field := int((x &^ f.sign()) >> f.fraction()); field > 0 {
		p.m |= 1 << f.fraction()
		p.e += field - 1
	}
	return p
}

// significand returns m as an integer.
func (p parts) significand() integer.Int { return integer.New(int64(p.m)) }

// over returns m 2^e, without the sign, as a numerator and a denominator.
func (p parts) over() (n, d integer.Int) {
	return p.significand().Mul(twos(p.e)), twos(-p.e)
}

// twos returns 2^n, and 1 for n below 0.
func twos(n int) integer.Int {
	p, _ := integer.New(1).Shift(max(n, 0))
	return p
}

// tens returns 10^n, and 1 for n below 0. It is made of two halves, because integer.Power has a limit.
func tens(n int) integer.Int {
	n = max(n, 0)
	half, _ := integer.New(10).Power(n / 2)
	rest, _ := integer.New(10).Power(n - n/2)
	return half.Mul(rest)
}

// Value returns the exact value of a float.
func Value(f Format, x uint64) (rational.Ratio, api.Errno) {
	if e := check(f, x); e != api.OK {
		return rational.Ratio{}, e
	}
	return value(f, x), api.OK
}

func value(f Format, x uint64) rational.Ratio {
	p := split(f, x)
	v, _ := rational.New(p.over())
	if p.negative {
		return v.Neg()
	}
	return v
}

// Decode returns the significand, the exponent and the sign of a float.
func Decode(f Format, x uint64) (significand integer.Int, exponent, sign int, e api.Errno) {
	if e := check(f, x); e != api.OK {
		return integer.Int{}, 0, 0, e
	}
	p := split(f, x)
	if p.negative {
		return p.significand(), p.e, -1, api.OK
	}
	return p.significand(), p.e, 1, api.OK
}

// Precision returns the number of bits of the significand of a float.
func Precision(f Format, x uint64) (int, api.Errno) {
	if e := check(f, x); e != api.OK {
		return 0, e
	}
	return bits.Len64(split(f, x).m), api.OK
}

// Next returns the next greater, or the next less float.
func Next(f Format, x uint64, up bool) (uint64, api.Errno) {
	if e := check(f, x); e != api.OK {
		return 0, e
	}
	for y := range beyond(f, x, up) {
		return y, api.OK
	}
	return 0, api.ErrOver
}

// beyond walks the floats that come behind x in one direction, each value once. Without the sign, floats are in the order of their bits.
func beyond(f Format, x uint64, up bool) iter.Seq[uint64] {
	last := int64(f.infinity()) - 1
	place := int64(x &^ f.sign())
	if (x&f.sign() != 0) == up {
		place = -place
	}
	return func(yield func(uint64) bool) {
		for place := place + 1; place <= last; place++ {
			y := uint64(max(place, -place))
			if (place > 0) != up && place != 0 {
				y |= f.sign()
			}
			if !yield(y) {
				return
			}
		}
	}
}
