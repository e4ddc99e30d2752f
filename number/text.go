package number

import (
	"strconv"
	"strings"

	"commonform/api"
	"commonform/float"
	"commonform/integer"
	"commonform/rational"
)

// Read returns the number of a token.
func Read(text string, base int, double bool) (api.Form, api.Errno) {
	x, e := rational.Parse(text, base)
	if e == api.ErrForm {
		x, e = readDecimal(text)
	}
	if e == api.ErrForm {
		return readFloat(text, double)
	}
	return ofReal(exactly(x)).form(e)
}

// readDecimal reads digits with a point behind them.
func readDecimal(text string) (rational.Ratio, api.Errno) {
	digits, isDecimal := strings.CutSuffix(text, ".")
	if !isDecimal {
		return rational.Ratio{}, api.ErrForm
	}
	n, e := integer.Parse(digits, 10)
	return rational.Of(n), e
}

// reader goes through the parts of a float's token.
type reader struct{ rest string }

func (r *reader) sign() {
	if r.rest != "" && strings.Contains("+-", r.rest[:1]) {
		r.rest = r.rest[1:]
	}
}

func (r *reader) point() bool {
	rest, found := strings.CutPrefix(r.rest, ".")
	r.rest = rest
	return found
}

// digits returns how many digits there are.
func (r *reader) digits() int {
	rest := strings.TrimLeft(r.rest, "0123456789")
	n := len(r.rest) - len(rest)
	r.rest = rest
	return n
}

// exponent returns the letter of an exponent, as a small one, and whether the rest, which is not empty, is one up to its end.
func (r *reader) exponent() (letter string, ok bool) {
	letter = strings.ToLower(r.rest[:1])
	r.rest = r.rest[1:]
	r.sign()
	digits := r.digits()
	return letter, strings.Contains("sfdle", letter) && digits > 0 && r.rest == ""
}

func readFloat(text string, isDouble bool) (api.Form, api.Errno) {
	r := reader{text}
	r.sign()
	ahead := r.digits()
	hasPoint := r.point()
	behind := 0
	if hasPoint {
		behind = r.digits()
	}
	mantissa := text[:len(text)-len(r.rest)]
	letter, hasExponent := "e", false
	if r.rest != "" {
		letter, hasExponent = r.exponent()
		if !hasExponent {
			return api.Form{}, api.ErrForm
		}
		mantissa += "e" + text[len(mantissa)+1:]
	}
	if behind == 0 && (ahead == 0 || !hasExponent) {
		return api.Form{}, api.ErrForm
	}
	kind := single
	if strings.Contains("dl", letter) || letter == "e" && isDouble {
		kind = double
	}
	bits, e := float.Read(formatOf(kind), mantissa)
	return ofReal(real{kind: kind, bits: bits}).form(e)
}

// Print returns the text of a number.
func Print(x api.Form, base int, radix, double bool) (string, api.Errno) {
	v, e := parse(x)
	if e != api.OK {
		return "", e
	}
	if base < 2 || base > 36 {
		return "", api.ErrArg
	}
	re := v.parts[0].text(base, radix, double)
	if !v.complex {
		return re, api.OK
	}
	return "#C(" + re + " " + v.parts[1].text(base, radix, double) + ")", api.OK
}

func (x real) text(base int, radix, isDouble bool) string {
	if x.kind != exact {
		usual := float.Single
		if isDouble {
			usual = float.Double
		}
		s, _ := float.Print(formatOf(x.kind), x.bits, usual)
		return s
	}
	s, _ := x.ratio.Text(base)
	switch {
	case !radix:
		return s
	case base == 10 && x.ratio.Whole():
		return s + "."
	}
	return prefix(base) + s
}

// prefix returns the characters that tell a base.
func prefix(base int) string {
	switch base {
	case 2:
		return "#b"
	case 8:
		return "#o"
	case 16:
		return "#x"
	}
	return "#" + strconv.Itoa(base) + "r"
}
