package rational

import (
	"strings"

	"commonform/api"
	"commonform/integer"
)

// Text returns the text of x.
func (x Ratio) Text(radix int) (string, api.Errno) {
	s, e := x.n.Text(radix)
	if e != api.OK || x.Whole() {
		return s, e
	}
	d, _ := x.d.Text(radix)
	return s + "/" + d, api.OK
}

// Parse returns the fraction with a text.
func Parse(s string, radix int) (Ratio, api.Errno) {
	if radix < 2 || radix > 36 {
		return Ratio{}, api.ErrArg
	}
	if len(s) > api.MaxDigits {
		return Ratio{}, api.ErrLarge
	}
	top, bottom, isRatio := strings.Cut(s, "/")
	n, e := integer.Parse(top, radix)
	if e != api.OK || !isRatio {
		return Of(n), e
	}
	if strings.HasPrefix(bottom, "+") || strings.HasPrefix(bottom, "-") {
		return Ratio{}, api.ErrForm
	}
	d, e := integer.Parse(bottom, radix)
	if e != api.OK {
		return Ratio{}, e
	}
	return New(n, d)
}
