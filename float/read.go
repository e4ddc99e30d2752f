package float

import (
	"strings"

	"commonform/api"
	"commonform/integer"
)

// beyondAll is a number of decimal places beyond those of all floats.
const beyondAll = 400

// Read returns the float with a decimal text.
func Read(f Format, s string) (uint64, api.Errno) {
	if !f.known() {
		return 0, api.ErrArg
	}
	if len(s) > api.MaxDigits {
		return 0, api.ErrLarge
	}
	x, ok := scan(s)
	if !ok {
		return 0, api.ErrForm
	}
	return x.float(f)
}

// decimal is a number 0.digits times ten to the power of point.
type decimal struct {
	negative bool
	digits   string
	point    int
}

// scan reads the parts of a text, and reports whether it has the form of a number.
func scan(s string) (decimal, bool) {
	negative, s := takeSign(s)
	whole, s := takeDigits(s)
	fraction := ""
	if strings.HasPrefix(s, ".") {
		fraction, s = takeDigits(s[1:])
	}
	x := decimal{negative, whole + fraction, len(whole)}
	if x.digits == "" {
		return decimal{}, false
	}
	if s != "" {
		exponent, ok := scanExponent(s)
		if !ok {
			return decimal{}, false
		}
		x.point += exponent
	}
	return x, true
}

func takeSign(s string) (negative bool, rest string) {
	if s != "" && (s[0] == '+' || s[0] == '-') {
		return s[0] == '-', s[1:]
	}
	return false, s
}

func takeDigits(s string) (digits, rest string) {
	rest = strings.TrimLeft(s, "0123456789")
	return s[:len(s)-len(rest)], rest
}

// scanExponent reads an exponent up to the end. A number that is too great for all that digits can make up for stays so.
func scanExponent(s string) (int, bool) {
	if s[0] != 'e' && s[0] != 'E' {
		return 0, false
	}
	negative, s := takeSign(s[1:])
	digits, s := takeDigits(s)
	if digits == "" || s != "" {
		return 0, false
	}
	n := 0
	for _, c := range digits {
		n = min(n*10+int(c-'0'), 100*api.MaxDigits)
	}
	if negative {
		return -n, true
	}
	return n, true
}

// float returns the float nearest to the number.
func (x decimal) float(f Format) (uint64, api.Errno) {
	digits := strings.TrimLeft(x.digits, "0")
	point := x.point - (len(x.digits) - len(digits))
	switch {
	case digits == "" || point < -beyondAll:
		return zero(f, x.negative), api.OK
	case point > beyondAll:
		return 0, api.ErrOver
	}
	n, _ := integer.Parse(digits, 10)
	shift := point - len(digits)
	return round(f, x.negative, n.Mul(tens(shift)), tens(-shift))
}
