package types

import (
	"slices"
	"strings"

	"commonform/api"
	"commonform/forms"
	"commonform/number"
)

// limit is an integer, or beyond all integers of a sign.
type limit struct {
	beyond int
	value  api.Form
}

// limitOf returns an end of a stretch; one that is not set lies beyond all integers of a sign.
func limitOf(b bound, sign int) limit {
	if !b.isSet {
		return limit{beyond: sign}
	}
	return limit{value: b.value}
}

func (x limit) sign() int {
	switch {
	case x.beyond != 0:
		return x.beyond
	case x.value.Text == "0":
		return 0
	case strings.HasPrefix(x.value.Text, "-"):
		return -1
	}
	return 1
}

func compareLimits(x, y limit) int {
	if x.beyond != 0 || y.beyond != 0 {
		return x.beyond - y.beyond
	}
	return compare(x.value, y.value)
}

// form returns a limit as a bound of a type, but one that lies beyond all integers as *.
func (x limit) form() api.Form {
	if x.beyond != 0 {
		return symbol("*")
	}
	return x.value
}

// short is form, with * for a number that is too long for a type.
func (x limit) short() api.Form {
	if len(x.value.Text) > maxDigits {
		return symbol("*")
	}
	return x.form()
}

// span is the least and the greatest one of some integers.
type span struct{ low, high limit }

// span returns the bounds of the integers of a type; false if there are none.
func (m *marks) span(t spec) (out span, some bool) {
	for s := range lineOf(m.values).stretches() {
		if !t.has(s.sample) {
			continue
		}
		if !some {
			out.low = limitOf(s.low, -1)
		}
		out.high = limitOf(s.high, 1)
		some = true
	}
	return out, some
}

// Integers returns between which bounds the integers of a type lie.
func Integers(t api.Form) (some bool, lo, hi api.Form, e api.Errno) {
	l, m, e := read(t)
	if e != api.OK {
		return false, api.Form{}, api.Form{}, e
	}
	s, some := m.span(l[0])
	if !some {
		return false, api.Form{}, api.Form{}, api.OK
	}
	return true, s.low.form(), s.high.form(), api.OK
}

// Plus returns a type of the sums of the objects of two types.
func Plus(a, b api.Form) (api.Form, api.Errno) {
	return combined(a, b, func(x, y span) span { return span{sum(x.low, y.low), sum(x.high, y.high)} })
}

// Times returns a type of the products of the objects of two types.
func Times(a, b api.Form) (api.Form, api.Errno) {
	return combined(a, b, func(x, y span) span {
		corners := []limit{product(x.low, y.low), product(x.low, y.high), product(x.high, y.low), product(x.high, y.high)}
		return span{slices.MinFunc(corners, compareLimits), slices.MaxFunc(corners, compareLimits)}
	})
}

// combined returns a type of what an operation makes of the numbers of two types.
func combined(a, b api.Form, op func(x, y span) span) (api.Form, api.Errno) {
	l, m, e := read(a, b)
	if e != api.OK {
		return api.Form{}, e
	}
	var spans []span
	for _, t := range l {
		if none, _ := m.witness(both(t, not(ofKinds(api.FormInt)))); !none {
			return symbol("NUMBER"), api.OK
		}
		if s, some := m.span(t); some {
			spans = append(spans, s)
		}
	}
	if len(spans) < len(l) {
		return forms.Nil(), api.OK
	}
	s := op(spans[0], spans[1])
	return forms.Call("INTEGER", []api.Form{s.low.short(), s.high.short()}), api.OK
}

// sum adds two limits, which do not lie beyond all integers on opposite sides.
func sum(x, y limit) limit {
	switch {
	case x.beyond != 0:
		return x
	case y.beyond != 0:
		return y
	}
	return limit{value: add(x.value, y.value)}
}

// product multiplies two limits: 0 and anything is 0, since each product of two integers is, of which one is 0.
func product(x, y limit) limit {
	sign := x.sign() * y.sign()
	switch {
	case sign == 0:
		return limit{value: ofInt(0)}
	case x.beyond != 0 || y.beyond != 0:
		return limit{beyond: sign}
	}
	z, _ := number.Mul(x.value, y.value)
	return limit{value: z}
}
