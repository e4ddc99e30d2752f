package float

import (
	"commonform/api"
	"commonform/integer"
	"commonform/rational"
)

// far is an exponent beyond those of all floats, and of the halves of the least ones.
const far = 1200

// Nearest returns the float that is nearest to a fraction.
func Nearest(f Format, x rational.Ratio) (uint64, api.Errno) {
	if !f.known() {
		return 0, api.ErrArg
	}
	return round(f, x.Sign() < 0, x.Numerator().Abs(), x.Denominator())
}

// round returns the float that is nearest to n/d, with this sign; 0 has none. Neither of them is below 0, and d is not 0; they need not be in lowest terms.
func round(f Format, negative bool, n, d integer.Int) (uint64, api.Errno) {
	if n.Sign() == 0 {
		return 0, api.OK
	}
	sign := uint64(0)
	if negative {
		sign = f.sign()
	}
	size := n.Length() - d.Length() // n/d is above 2^(size-1), and below 2^(size+1)
	switch {
	case size > far:
		return 0, api.ErrOver
	case size < -far:
		return sign, api.OK
	}
	e := max(size-1-f.fraction(), f.least())
	q, rest := scaled(n, d, e)
	if q>>f.fraction() > 1 {
		e++
		q, rest = scaled(n, d, e)
	}
	if rest > 0 || rest == 0 && q&1 == 1 {
		q++
	}
	// A significand that has its top bit, or gets one more by rounding, adds just what the field of the exponent lacks.
	out := uint64(e-f.least())<<f.fraction() + q
	if out >= f.infinity() {
		return 0, api.ErrOver
	}
	return sign | out, api.OK
}

// scaled returns n/d/2^e, rounded down, and how the rest compares with one half.
func scaled(n, d integer.Int, e int) (q uint64, rest int) {
	n, d = n.Mul(twos(-e)), d.Mul(twos(e))
	whole, r, _ := n.Divide(d)
	low, _ := whole.Int64()
	return uint64(low), r.Add(r).Cmp(d)
}

// zero returns 0, or -0.
func zero(f Format, negative bool) uint64 {
	if negative {
		return f.sign()
	}
	return 0
}

// Convert returns the float of another format that is nearest to a float.
func Convert(f Format, x uint64, to Format) (uint64, api.Errno) {
	if !to.known() {
		return 0, api.ErrArg
	}
	if e := check(f, x); e != api.OK {
		return 0, e
	}
	return fit(to, split(f, x))
}

// fit returns the float nearest to the value of parts, whose exponent may be any; 0 keeps its sign.
func fit(f Format, p parts) (uint64, api.Errno) {
	if p.m == 0 {
		return zero(f, p.negative), api.OK
	}
	n, d := p.over()
	return round(f, p.negative, n, d)
}

// Scale returns a float times 2 to the power of n.
func Scale(f Format, x uint64, n int) (uint64, api.Errno) {
	if e := check(f, x); e != api.OK {
		return 0, e
	}
	p := split(f, x)
	p.e += min(max(n, -3*far), 3*far) // a further shift would change nothing
	return fit(f, p)
}
