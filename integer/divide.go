package integer

import (
	"math/bits"
	"slices"

	"commonform/api"
)

// Divide returns the quotient of x and y, truncated, and the remainder.
func (x Int) Divide(y Int) (quotient, remainder Int, e api.Errno) {
	if y.Sign() == 0 {
		return Int{}, Int{}, api.ErrZero
	}
	q, r := divide(x.limbs, y.limbs)
	return signed(x.negative != y.negative, q), signed(x.negative, r), api.OK
}

// divide returns the quotient and the remainder; b is not 0.
func divide(a, b []uint32) (q, r []uint32) {
	if compare(a, b) < 0 {
		return nil, slices.Clone(a)
	}
	if len(b) == 1 {
		q, rest := short(a, b[0])
		return q, words64(uint64(rest))
	}
	return long(a, b)
}

// short divides by a single limb.
func short(a []uint32, w uint32) (q []uint32, r uint32) {
	q = make([]uint32, len(a))
	for i := len(a) - 1; i >= 0; i-- {
		q[i], r = bits.Div32(r, a[i], w)
	}
	return trim(q), r
}

// long divides by several limbs: the divisor is shifted until its top bit is set, so that a digit of the quotient that is guessed from two limbs is at most 2 too great.
func long(a, b []uint32) (q, r []uint32) {
	shift := bits.LeadingZeros32(b[len(b)-1])
	b = up(b, shift)
	rest := make([]uint32, len(a)+1)
	copy(rest, up(a, shift))
	q = make([]uint32, len(a)-len(b)+1)
	for i := len(q) - 1; i >= 0; i-- {
		part := rest[i : i+len(b)+1]
		d := guess(part, b)
		if takeAway(part, b, d) {
			d--
			putBack(part, b)
		}
		q[i] = d
	}
	r, _ = down(trim(rest), shift)
	return trim(q), r
}

// guess returns a digit of the quotient that is right, or 1 too great.
func guess(part, b []uint32) uint32 {
	n := len(b)
	top := uint64(part[n])<<limbBits | uint64(part[n-1])
	d, r := top/uint64(b[n-1]), top%uint64(b[n-1])
	for d>>limbBits != 0 || d*uint64(b[n-2]) > r<<limbBits|uint64(part[n-2]) {
		d--
		r += uint64(b[n-1])
		if r>>limbBits != 0 {
			break
		}
	}
	return uint32(d)
}

// takeAway takes d times b from part, and reports whether that was too much.
func takeAway(part, b []uint32, d uint32) bool {
	carry, borrow := uint64(0), uint32(0)
	for i, w := range b {
		carry += uint64(w) * uint64(d)
		part[i], borrow = bits.Sub32(part[i], uint32(carry), borrow)
		carry >>= limbBits
	}
	n := len(b)
	part[n], borrow = bits.Sub32(part[n], uint32(carry), borrow)
	return borrow != 0
}

// putBack adds b to part; the carry above the top undoes the borrow of takeAway.
func putBack(part, b []uint32) {
	carry := uint32(0)
	for i, w := range b {
		part[i], carry = bits.Add32(part[i], w, carry)
	}
	part[len(b)] += carry
}

// Gcd returns the greatest common divisor of x and y.
func (x Int) Gcd(y Int) Int { return signed(false, gcd(x.limbs, y.limbs)) }

// gcd goes Euclid's way; while both numbers are long, it finds many of his steps at once from their leading digits (Lehmer).
func gcd(a, b []uint32) []uint32 {
	if compare(a, b) < 0 {
		a, b = b, a
	}
	for len(b) > 2 {
		s := lead(a, b)
		if s.v0 == 0 {
			_, r := divide(a, b)
			a, b = b, r
			continue
		}
		a, b = s.apply(a, b)
	}
	if len(b) == 0 {
		return slices.Clone(a)
	}
	_, r := divide(a, b)
	u, v := low64(b), low64(r)
	for v != 0 {
		u, v = v, u%v
	}
	return words64(u)
}

// steps stands for several steps of Euclid: a becomes the difference of u0 a and v0 b, and b that of u1 a and v1 b, in the order that makes it positive.
type steps struct {
	u0, u1, v0, v1 uint64 // each below 2^32
	even           bool
}

// lead finds steps from the 64 leading bits of a and those bits of b that stand at the same places, as long as it is certain (by Collins' condition) that the quotients are those of the whole numbers.
func lead(a, b []uint32) steps {
	n := len(a)
	shift := bits.LeadingZeros32(a[n-1])
	top := func(l []uint32) uint64 {
		return (uint64(at(l, n-1))<<limbBits|uint64(at(l, n-2)))<<shift | uint64(at(l, n-3))>>(limbBits-shift)
	}
	x, y := top(a), top(b)
	s := steps{u1: 1}
	u2, v2 := uint64(0), uint64(1)
	for y >= v2 && x-y >= s.v1+v2 {
		q := x / y
		x, y = y, x%y
		s.u0, s.u1, u2 = s.u1, u2, s.u1+q*u2
		s.v0, s.v1, v2 = s.v1, v2, s.v1+q*v2
		s.even = !s.even
	}
	return s
}

func (s steps) apply(a, b []uint32) (x, y []uint32) {
	if s.even {
		return difference(s.u0, a, s.v0, b), difference(s.v1, b, s.u1, a)
	}
	return difference(s.v0, b, s.u0, a), difference(s.u1, a, s.v1, b)
}

// difference returns u a - v b, which is not below 0.
func difference(u uint64, a []uint32, v uint64, b []uint32) []uint32 {
	out := make([]uint32, max(len(a), len(b)))
	plus, minus, borrow := uint64(0), uint64(0), uint32(0)
	for i := range out {
		plus += u * uint64(at(a, i))
		minus += v * uint64(at(b, i))
		out[i], borrow = bits.Sub32(uint32(plus), uint32(minus), borrow)
		plus >>= limbBits
		minus >>= limbBits
	}
	return trim(out)
}
