package integer

import (
	"math/bits"
	"slices"

	"commonform/api"
)

// Power returns x to the power of n.
func (x Int) Power(n int) (Int, api.Errno) {
	if n < 0 {
		return Int{}, api.ErrArg
	}
	if n == 0 {
		return New(1), api.OK
	}
	digits := length(x.limbs)
	if digits <= 1 { // 0, 1 and -1
		return signed(x.negative && n&1 == 1, words64(low64(x.limbs))), api.OK
	}
	// The result is not below 2^((digits-1) n) in absolute value: this keeps what is calculated small.
	if n > api.MaxBits+1 || (digits-1)*n > api.MaxBits {
		return Int{}, api.ErrLarge
	}
	out := signed(x.negative && n&1 == 1, power(x.limbs, n))
	if out.Length() > api.MaxBits {
		return Int{}, api.ErrLarge
	}
	return out, api.OK
}

// power returns a to the power of n, for n above 0.
func power(a []uint32, n int) []uint32 {
	out := a
	for i := bits.Len(uint(n)) - 2; i >= 0; i-- {
		out = multiply(out, out)
		if n>>i&1 == 1 {
			out = multiply(out, a)
		}
	}
	return slices.Clone(out)
}

// Root returns the square root of x, rounded down.
func (x Int) Root() (Int, api.Errno) {
	if x.negative {
		return Int{}, api.ErrArg
	}
	return signed(false, root(x.limbs)), api.OK
}

// root goes Newton's way down from a power of two that is not below the root.
func root(a []uint32) []uint32 {
	if len(a) == 0 {
		return nil
	}
	x := up([]uint32{1}, (length(a)+1)/2)
	for {
		q, _ := divide(a, x)
		y, _ := down(add(x, q), 1)
		if compare(y, x) >= 0 {
			return x
		}
		x = y
	}
}
