// Package integer has integers of any size. See shared/doc/02-integer.md.
package integer

import (
	"math"
	"slices"
)

// Int is an integer of any size. The zero value is 0.
type Int struct {
	negative bool     // not set for 0
	limbs    []uint32 // of the absolute value; never changed once they are part of an Int
}

// New returns n.
func New(n int64) Int {
	u := uint64(n)
	if n < 0 {
		u = -u
	}
	return signed(n < 0, words64(u))
}

// Make returns the integer with a sign and the limbs of its absolute value.
func Make(negative bool, limbs []uint32) Int {
	return signed(negative, slices.Clone(limbs))
}

// signed takes the limbs over as they are: its callers have just made them.
func signed(negative bool, limbs []uint32) Int {
	limbs = trim(limbs)
	return Int{negative && len(limbs) > 0, limbs}
}

// Limbs returns the sign and the limbs of the absolute value.
func (x Int) Limbs() (negative bool, limbs []uint32) {
	return x.negative, slices.Clone(x.limbs)
}

// Int64 returns x, if it fits.
func (x Int) Int64() (int64, bool) {
	if len(x.limbs) > 2 {
		return 0, false
	}
	u := low64(x.limbs)
	switch {
	case x.negative && u <= 1<<63:
		return int64(-u), true
	case !x.negative && u <= math.MaxInt64:
		return int64(u), true
	}
	return 0, false
}

// Sign returns -1, 0 or 1.
func (x Int) Sign() int {
	switch {
	case x.negative:
		return -1
	case len(x.limbs) > 0:
		return 1
	}
	return 0
}

// Cmp compares x and y.
func (x Int) Cmp(y Int) int {
	switch {
	case x.negative && y.negative:
		return compare(y.limbs, x.limbs)
	case x.negative:
		return -1
	case y.negative:
		return 1
	}
	return compare(x.limbs, y.limbs)
}

// Odd reports whether x is odd.
func (x Int) Odd() bool { return len(x.limbs) > 0 && x.limbs[0]&1 == 1 }

// Neg returns -x.
func (x Int) Neg() Int { return signed(!x.negative, slices.Clone(x.limbs)) }

// Abs returns the absolute value of x.
func (x Int) Abs() Int { return signed(false, slices.Clone(x.limbs)) }

// Add returns x + y.
func (x Int) Add(y Int) Int { return sum(x, y, y.negative) }

// Sub returns x - y.
func (x Int) Sub(y Int) Int { return sum(x, y, !y.negative) }

// sum adds y to x, with another sign in place of that of y.
func sum(x, y Int, negative bool) Int {
	if x.negative == negative {
		return signed(negative, add(x.limbs, y.limbs))
	}
	if compare(x.limbs, y.limbs) >= 0 {
		return signed(x.negative, subtract(x.limbs, y.limbs))
	}
	return signed(negative, subtract(y.limbs, x.limbs))
}

// Mul returns the product of x and y.
func (x Int) Mul(y Int) Int {
	return signed(x.negative != y.negative, multiply(x.limbs, y.limbs))
}
