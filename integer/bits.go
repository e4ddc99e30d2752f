package integer

import "commonform/api"

// Shift returns x times 2 to the power of n, rounded down.
func (x Int) Shift(n int) (Int, api.Errno) {
	if n > 0 && x.Sign() != 0 && x.Length() > api.MaxBits-n {
		return Int{}, api.ErrLarge
	}
	return x.shifted(n), api.OK
}

// shifted shifts without a limit of size.
func (x Int) shifted(n int) Int {
	if n >= 0 {
		return signed(x.negative, up(x.limbs, n))
	}
	l, lost := down(x.limbs, -max(n, -len(x.limbs)*limbBits))
	if x.negative && lost {
		l = add(l, []uint32{1})
	}
	return signed(x.negative, l)
}

// Boole combines x and y bit by bit.
func (x Int) Boole(op int, y Int) (Int, api.Errno) {
	if op < 0 || op > 15 {
		return Int{}, api.ErrArg
	}
	n := max(len(x.limbs), len(y.limbs)) + 1
	combine := table(op)
	out := x.words(n)
	for i, w := range y.words(n) {
		out[i] = combine(out[i], w)
	}
	return fromWords(out), api.OK
}

// table returns the operation whose table are the four bits of op.
func table(op int) func(a, b uint32) uint32 {
	var all [4]uint32
	for i := range all {
		all[i] = -(uint32(op) >> i & 1) // all ones, or all zeros
	}
	return func(a, b uint32) uint32 {
		return ^a&^b&all[0] | ^a&b&all[1] | a&^b&all[2] | a&b&all[3]
	}
}

// words returns the n lowest limbs of the two's complement.
func (x Int) words(n int) []uint32 {
	out := make([]uint32, n)
	copy(out, x.limbs)
	if x.negative {
		complement(out)
	}
	return out
}

// fromWords returns the number with this two's complement, whose top bit is its sign.
func fromWords(w []uint32) Int {
	negative := w[len(w)-1]>>(limbBits-1) == 1
	if negative {
		complement(w)
	}
	return signed(negative, w)
}

// complement changes the sign of a number in two's complement.
func complement(w []uint32) {
	carry := uint64(1)
	for i, v := range w {
		carry += uint64(^v)
		w[i] = uint32(carry)
		carry >>= limbBits
	}
}

// pattern returns the limbs of x, or of -1 - x if x is below 0: those have the bits that differ from the sign.
func (x Int) pattern() []uint32 {
	if x.negative {
		return subtract(x.limbs, []uint32{1})
	}
	return x.limbs
}

// Length returns the number of bits of x in two's complement, without the sign.
func (x Int) Length() int { return length(x.pattern()) }

// Count returns the number of bits of x that differ from its sign.
func (x Int) Count() int { return ones(x.pattern()) }

// Bit reports whether a bit of x is set.
func (x Int) Bit(i int) bool {
	if i < 0 {
		return false
	}
	bit := at(x.pattern(), i/limbBits) >> (i % limbBits) & 1
	return (bit == 1) != x.negative
}

// Field returns some bits of x as a number.
func (x Int) Field(size, position int) (Int, api.Errno) {
	if !inField(size) || !inField(position) {
		return Int{}, api.ErrArg
	}
	return x.field(size, position), api.OK
}

func inField(n int) bool { return n >= 0 && n <= api.MaxBits }

func (x Int) field(size, position int) Int {
	w := x.shifted(-position).words(size/limbBits + 1)
	w[size/limbBits] &= 1<<(size%limbBits) - 1
	return signed(false, w)
}

// Deposit returns x with some bits replaced.
func (x Int) Deposit(part Int, size, position int) (Int, api.Errno) {
	if !inField(size) || !inField(position) {
		return Int{}, api.ErrArg
	}
	change := part.field(size, 0).Sub(x.field(size, position))
	return x.Add(change.shifted(position)), api.OK
}
