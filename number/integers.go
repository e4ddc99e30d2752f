package number

import (
	"commonform/api"
	"commonform/integer"
)

// parseIntegers returns integers, or the first error of a number; then ErrType if one of them is no integer.
func parseIntegers(forms ...api.Form) ([]integer.Int, api.Errno) {
	l, e := parseAll(forms...)
	if e != api.OK {
		return nil, e
	}
	var out []integer.Int
	for _, v := range l {
		n, ok := v.integer()
		if !ok {
			return nil, api.ErrType
		}
		out = append(out, n)
	}
	return out, api.OK
}

// parseList is like parseIntegers, but each element's errors come ahead of those of the next one.
func parseList(l []api.Form) ([]integer.Int, api.Errno) {
	var out []integer.Int
	for _, x := range l {
		n, e := parseIntegers(x)
		if e != api.OK {
			return nil, e
		}
		out = append(out, n...)
	}
	return out, api.OK
}

func (v number) integer() (integer.Int, bool) {
	x := v.parts[0]
	if v.complex || x.kind != exact || !x.ratio.Whole() {
		return integer.Int{}, false
	}
	return x.ratio.Numerator(), true
}

// Gcd returns the greatest common divisor of integers.
func Gcd(l []api.Form) (api.Form, api.Errno) {
	all, e := parseList(l)
	if e != api.OK {
		return api.Form{}, e
	}
	var out integer.Int
	for _, n := range all {
		out = out.Gcd(n)
	}
	return ofInteger(out)
}

// Lcm returns the least common multiple of integers.
func Lcm(l []api.Form) (api.Form, api.Errno) {
	all, e := parseList(l)
	if e != api.OK {
		return api.Form{}, e
	}
	for _, n := range all {
		if n.Sign() == 0 {
			return small(0).form()
		}
	}
	out := integer.New(1)
	for _, n := range all {
		q, _, _ := n.Divide(n.Gcd(out))
		out = out.Mul(q).Abs()
		if out.Length() > api.MaxBits {
			return api.Form{}, api.ErrLarge
		}
	}
	return ofInteger(out)
}

// Boole combines two integers bit by bit.
func Boole(op int, x, y api.Form) (api.Form, api.Errno) {
	l, e := parseIntegers(x, y)
	if e != api.OK {
		return api.Form{}, e
	}
	out, e := l[0].Boole(op, l[1])
	if e != api.OK {
		return api.Form{}, e
	}
	return ofInteger(out)
}

// Shift returns an integer times 2 to the power of n, rounded down.
func Shift(x api.Form, n int) (api.Form, api.Errno) {
	l, e := parseIntegers(x)
	if e != api.OK {
		return api.Form{}, e
	}
	out, e := l[0].Shift(n)
	if e != api.OK {
		return api.Form{}, e
	}
	return ofInteger(out)
}
