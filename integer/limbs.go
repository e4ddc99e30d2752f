package integer

import (
	"cmp"
	"math/bits"
)

// A limb has 32 bits, so that a product of two, with two carries, fits into one word of 64 bits.
const limbBits = 32

// trim leaves out zeros at the top.
func trim(l []uint32) []uint32 {
	for len(l) > 0 && l[len(l)-1] == 0 {
		l = l[:len(l)-1]
	}
	return l
}

// words64 returns the limbs of u.
func words64(u uint64) []uint32 { return trim([]uint32{uint32(u), uint32(u >> limbBits)}) }

// low64 returns the number that the two lowest limbs make.
func low64(l []uint32) uint64 { return uint64(at(l, 1))<<limbBits | uint64(at(l, 0)) }

// at returns a limb; those above the top are 0.
func at(l []uint32, i int) uint32 {
	if i < len(l) {
		return l[i]
	}
	return 0
}

// length returns the number of binary digits.
func length(l []uint32) int {
	if len(l) == 0 {
		return 0
	}
	return len(l)*limbBits - bits.LeadingZeros32(l[len(l)-1])
}

// ones returns the number of binary digits that are 1.
func ones(l []uint32) int {
	n := 0
	for _, w := range l {
		n += bits.OnesCount32(w)
	}
	return n
}

func compare(a, b []uint32) int {
	if len(a) != len(b) {
		return cmp.Compare(len(a), len(b))
	}
	for i := len(a) - 1; i >= 0; i-- {
		if a[i] != b[i] {
			return cmp.Compare(a[i], b[i])
		}
	}
	return 0
}

func add(a, b []uint32) []uint32 {
	if len(a) < len(b) {
		a, b = b, a
	}
	out := make([]uint32, len(a)+1)
	carry := uint64(0)
	for i, w := range a {
		carry += uint64(w) + uint64(at(b, i))
		out[i] = uint32(carry)
		carry >>= limbBits
	}
	out[len(a)] = uint32(carry)
	return trim(out)
}

// subtract returns a - b; b is not above a.
func subtract(a, b []uint32) []uint32 {
	out := make([]uint32, len(a))
	borrow := uint32(0)
	for i, w := range a {
		out[i], borrow = bits.Sub32(w, at(b, i), borrow)
	}
	return trim(out)
}

func multiply(a, b []uint32) []uint32 {
	if len(a) == 0 || len(b) == 0 {
		return nil
	}
	out := make([]uint32, len(a)+len(b))
	for i, w := range a {
		carry := uint64(0)
		row := out[i : i+len(b)]
		for k, v := range b {
			carry += uint64(w)*uint64(v) + uint64(row[k])
			row[k] = uint32(carry)
			carry >>= limbBits
		}
		out[i+len(b)] = uint32(carry)
	}
	return trim(out)
}

// scaled returns a times w, plus more.
func scaled(a []uint32, w, more uint32) []uint32 {
	out := make([]uint32, len(a)+1)
	carry := uint64(more)
	for i, v := range a {
		carry += uint64(v) * uint64(w)
		out[i] = uint32(carry)
		carry >>= limbBits
	}
	out[len(a)] = uint32(carry)
	return trim(out)
}

// up returns a times 2^n.
func up(a []uint32, n int) []uint32 {
	if len(a) == 0 {
		return nil
	}
	skip, rest := n/limbBits, n%limbBits
	out := make([]uint32, len(a)+skip+1)
	for i, w := range a {
		v := uint64(w) << rest
		out[i+skip] |= uint32(v)
		out[i+skip+1] = uint32(v >> limbBits)
	}
	return trim(out)
}

// down returns a divided by 2^n, rounded down, and whether this has a remainder.
func down(a []uint32, n int) ([]uint32, bool) {
	skip, rest := n/limbBits, n%limbBits
	if skip >= len(a) {
		return nil, len(a) > 0
	}
	lost := len(trim(a[:skip])) > 0 || a[skip]&(1<<rest-1) != 0
	out := make([]uint32, len(a)-skip)
	for i := range out {
		v := uint64(at(a, i+skip+1))<<limbBits | uint64(a[i+skip])
		out[i] = uint32(v >> rest)
	}
	return trim(out), lost
}
