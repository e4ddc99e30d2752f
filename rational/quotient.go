package rational

import (
	"iter"

	"commonform/api"
	"commonform/integer"
)

// Ways of rounding a quotient to an integer.
const (
	Floor = iota
	Ceiling
	Truncate
	Round
)

// Quotient returns x/y, rounded to an integer, and the remainder.
func (x Ratio) Quotient(way int, y Ratio) (integer.Int, Ratio, api.Errno) {
	if way < Floor || way > Round {
		return integer.Int{}, Ratio{}, api.ErrArg
	}
	if y.Sign() == 0 {
		return integer.Int{}, Ratio{}, api.ErrZero
	}
	q := rounded(way, x.over(y), y.over(x))
	return q, x.Sub(y.Mul(Of(q))), api.OK
}

// rounded returns n/d as an integer; d is not 0.
func rounded(way int, n, d integer.Int) integer.Int {
	if d.Sign() < 0 {
		n, d = n.Neg(), d.Neg()
	}
	q, r := floor(n, d)
	if r.Sign() == 0 {
		return q
	}
	// Each way tells from the integer below, and from how the part above it compares with one half, whether to go up.
	goesUp := [...]func(below integer.Int, half int) bool{
		Floor:    func(integer.Int, int) bool { return false },
		Ceiling:  func(integer.Int, int) bool { return true },
		Truncate: func(below integer.Int, _ int) bool { return below.Sign() < 0 },
		Round:    func(below integer.Int, half int) bool { return half > 0 || half == 0 && below.Odd() },
	}
	if goesUp[way](q, r.Add(r).Cmp(d)) {
		return q.Add(integer.New(1))
	}
	return q
}

// floor returns the greatest integer that is not above n/d, and the remainder; d is above 0.
func floor(n, d integer.Int) (q, r integer.Int) {
	q, r, _ = n.Divide(d)
	if r.Sign() < 0 {
		q, r = q.Sub(integer.New(1)), r.Add(d)
	}
	return q, r
}

// terms walks the continued fraction of n/d; d is above 0.
func terms(n, d integer.Int) iter.Seq[integer.Int] {
	return func(yield func(integer.Int) bool) {
		for d.Sign() > 0 {
			q, r := floor(n, d)
			if !yield(q) {
				return
			}
			n, d = d, r
		}
	}
}

// Expansion returns the continued fraction of x.
func (x Ratio) Expansion() []integer.Int {
	var out []integer.Int
	for a := range terms(x.n, x.Denominator()) {
		out = append(out, a)
	}
	return out
}

// Contract returns the fraction with a continued fraction.
func Contract(l []integer.Int) (Ratio, api.Errno) {
	if len(l) == 0 {
		return Ratio{}, api.ErrNone
	}
	n, d := l[len(l)-1], integer.New(1)
	for i := len(l) - 2; i >= 0; i-- {
		if n.Sign() == 0 {
			return Ratio{}, api.ErrZero
		}
		n, d = l[i].Mul(n).Add(d), n
	}
	return coprime(n, d), api.OK
}

// Simplest returns the simplest fraction between two others.
func Simplest(low, high Ratio) (Ratio, api.Errno) {
	switch {
	case low.Cmp(high) > 0:
		return Ratio{}, api.ErrOrder
	case high.Sign() < 0:
		return between(high.Neg(), low.Neg()).Neg(), api.OK
	case low.Sign() > 0:
		return between(low, high), api.OK
	}
	return Ratio{}, api.OK
}

// between returns the simplest fraction from low to high, which are above 0. As long as both have the same next term of their continued fractions, the result has it, too; behind it their order is turned round.
func between(low, high Ratio) Ratio {
	n, d, m, c := low.n, low.Denominator(), high.n, high.Denominator()
	var common []integer.Int
	for {
		a, r := floor(n, d)
		b, s := floor(m, c)
		if r.Sign() == 0 {
			common = append(common, a)
			break
		}
		if a.Cmp(b) < 0 {
			common = append(common, a.Add(integer.New(1)))
			break
		}
		common = append(common, a)
		n, d, m, c = c, s, d, r
	}
	out, _ := Contract(common)
	return out
}
