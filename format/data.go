package format

import (
	"strings"

	"commonform/api"
	"commonform/float"
	"commonform/integer"
	"commonform/number"
	"commonform/rational"
)

func (r *run) aesthetic(c call) end { return r.data(c, false) }

func (r *run) standard(c call) end { return r.data(c, true) }

func (r *run) data(c call, escape bool) end {
	x := r.args.take()
	s := printed(x, escape)
	if c.colon && isNil(x) {
		s = "()"
	}
	step, pads := c.number(1, 1), c.number(2, 0)
	if missing := c.number(0, 0) - len(s) - pads; missing > 0 {
		pads += (missing + step - 1) / step * step
	}
	pad := c.character(3, ' ')
	if c.at {
		r.out.pad(pad, pads)
		pads = 0
	}
	r.out.put(s)
	r.out.pad(pad, pads)
	return goesOn
}

func (r *run) decimal(c call) end { return r.integer(c, 10, 0) }

func (r *run) binary(c call) end { return r.integer(c, 2, 0) }

func (r *run) octal(c call) end { return r.integer(c, 8, 0) }

func (r *run) hexadecimal(c call) end { return r.integer(c, 16, 0) }

// integer puts out an integer in a radix; from is where its parameters begin.
func (r *run) integer(c call, radix, from int) end {
	x := r.args.take()
	s := ""
	if x.Kind == api.FormInt {
		n := integerOf(x)
		s, _ = n.Text(radix)
		if c.at && n.Sign() >= 0 {
			s = "+" + s
		}
		if c.colon {
			s, _ = Grouped(s, c.character(from+2, ','), c.number(from+3, 3))
		}
	} else {
		s = printed(x, false)
	}
	r.out.pad(c.character(from+1, ' '), c.number(from, 0)-len(s))
	r.out.put(s)
	return goesOn
}

// integerOf returns the value of an argument that must be an integer.
func integerOf(x api.Form) integer.Int {
	if x.Kind != api.FormInt || number.Check(x) != api.OK {
		fail(api.ErrType)
	}
	n, _ := integer.Parse(x.Text, 10)
	return n
}

func (r *run) radix(c call) end {
	if len(c.params) > 0 {
		return r.integer(c, c.number(0, 10), 1)
	}
	x := r.args.take()
	var s string
	var e api.Errno
	switch {
	case c.at:
		s, e = Roman(x, c.colon)
	case c.colon:
		s, e = Ordinal(x)
	default:
		s, e = Cardinal(x)
	}
	if e != api.OK {
		fail(e)
	}
	r.out.put(s)
	return goesOn
}

func (r *run) character(c call) end {
	x := r.args.take()
	if x.Kind != api.FormChar {
		fail(api.ErrType)
	}
	s := x.Text
	switch {
	case c.at:
		s = printed(x, true)
	case c.colon:
		s = named(s)
	}
	r.out.put(s)
	return goesOn
}

// named returns the name of a character; if it has none, the character itself.
func named(s string) string {
	switch s {
	case "\x00":
		return "Null"
	case "\b":
		return "Backspace"
	case "\t":
		return "Tab"
	case "\n":
		return "Newline"
	case "\f":
		return "Page"
	case "\r":
		return "Return"
	case " ":
		return "Space"
	case "\x7f":
		return "Rubout"
	}
	return s
}

// realOf returns the value of an argument that must be a real number.
func realOf(x api.Form) rational.Ratio {
	v, e := number.Rational(x)
	if e != api.OK {
		fail(api.ErrType)
	}
	out, _ := rational.Parse(v.Text, 10)
	return out
}

func (r *run) fixed(c call) end {
	x := r.args.take()
	scale, _ := rational.Of(integer.New(10)).Power(c.number(2, 0))
	v := realOf(x).Mul(scale)
	s := ""
	if places, ok := c.given(1); ok {
		s, _ = float.Places(v, places)
	} else {
		s = shortest(v, formatOf(x))
	}
	if c.at && s[0] != '-' {
		s = "+" + s
	}
	width := c.number(0, 0)
	if width > 0 && len(s) > width {
		s = withoutZero(s)
	}
	if _, ok := c.given(3); ok && width > 0 && len(s) > width {
		s = strings.Repeat(c.character(3, ' '), width)
	}
	r.out.pad(c.character(4, ' '), width-len(s))
	r.out.put(s)
	return goesOn
}

// formatOf returns the format of the float that stands for a real number.
func formatOf(x api.Form) float.Format {
	if x.Kind == api.FormDouble {
		return float.Double
	}
	return float.Single
}

// shortest returns the shortest decimal text, without an exponent, of the float nearest to v.
func shortest(v rational.Ratio, f float.Format) string {
	bits, e := float.Nearest(f, v)
	if e != api.OK {
		fail(api.ErrRange)
	}
	digits, point, _ := float.Shortest(f, bits)
	if digits == "0" {
		return "0.0"
	}
	digits = strings.Repeat("0", max(1-point, 0)) + digits
	point = max(point, 1)
	digits += strings.Repeat("0", max(point+1-len(digits), 0))
	s := digits[:point] + "." + digits[point:]
	if v.Sign() < 0 {
		return "-" + s
	}
	return s
}

// withoutZero leaves out a 0 that stands alone in front of the point, if there is a digit behind it.
func withoutZero(s string) string {
	sign, rest := cutSign(s)
	if strings.HasPrefix(rest, "0.") && rest != "0." {
		return sign + rest[1:]
	}
	return s
}

// cutSign parts a text from the sign in front of it.
func cutSign(s string) (sign, rest string) {
	if s != "" && (s[0] == '-' || s[0] == '+') {
		return s[:1], s[1:]
	}
	return "", s
}

func (r *run) dollars(c call) end {
	s, _ := float.Places(realOf(r.args.take()), c.number(0, 2))
	sign, rest := cutSign(s)
	if c.at && sign == "" {
		sign = "+"
	}
	rest = strings.Repeat("0", max(c.number(1, 1)-strings.Index(rest, "."), 0)) + rest
	pads := c.number(2, 0) - len(sign) - len(rest)
	if c.colon {
		r.out.put(sign)
		sign = ""
	}
	r.out.pad(c.character(3, ' '), pads)
	r.out.put(sign + rest)
	return goesOn
}

func (r *run) plural(c call) end {
	if c.colon {
		r.args.moveTo(r.args.at - 1)
	}
	x := r.args.take()
	one, many := "", "s"
	if c.at {
		one, many = "y", "ies"
	}
	if x.Kind == api.FormInt && x.Text == "1" {
		many = one
	}
	r.out.put(many)
	return goesOn
}
