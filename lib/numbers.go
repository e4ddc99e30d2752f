package lib

import (
	"strconv"
	"strings"

	"commonform/api"
	"commonform/heap"
	"commonform/number"
)

func numberRows() []row {
	return []row{
		{"+", "n.."},
		{"*", "n.."},
		{"-", "n n.."},
		{"/", "n n.."},
		{"=", "n n.."},
		{"/=", "n n.."},
		{"<", "r r.."},
		{"<=", "r r.."},
		{">", "r r.."},
		{">=", "r r.."},
		{"MAX", "r r.."},
		{"MIN", "r r.."},
		{"ABS", "r"},
		{"FLOOR", "r [r]"},
		{"CEILING", "r [r]"},
		{"TRUNCATE", "r [r]"},
		{"ROUND", "r [r]"},
		{"MOD", "r r"},
		{"REM", "r r"},
		{"GCD", "i.."},
		{"LCM", "i.."},
		{"LOGAND", "i.."},
		{"LOGIOR", "i.."},
		{"LOGXOR", "i.."},
		{"LOGNOT", "i"},
		{"ASH", "i i"},
		{"EXPT", "n i"},
		{"NUMERATOR", "a"},
		{"DENOMINATOR", "a"},
		{"COMPLEX", "r [r]"},
		{"REALPART", "n"},
		{"IMAGPART", "n"},
		{"RATIONAL", "r"},
		{"RATIONALIZE", "r"},
		{"FLOAT", "r [r]"},
	}
}

// Operations of layer 5 by what they take and tell.
type (
	unary  func(x api.Form) (api.Form, api.Errno)
	binary func(x, y api.Form) (api.Form, api.Errno)
)

func (w *World) numberOperations() map[string]operation {
	return map[string]operation{
		"+": w.folded(0, number.Add),
		"*": w.folded(1, number.Mul),
		"-": w.reduced(number.Neg, number.Sub),
		"/": w.reduced(func(x api.Form) (api.Form, api.Errno) { return number.Div(whole(1), x) }, number.Div),
		"=": w.chained(number.Equals),
		"/=": func(a []heap.Word) []heap.Word {
			for i, x := range a {
				for _, y := range a[i+1:] {
					if w.holds(number.Equals, x, y) {
						return one(heap.Nil)
					}
				}
			}
			return one(w.truth(true))
		},
		"<":           w.compared(func(c int) bool { return c < 0 }),
		"<=":          w.compared(func(c int) bool { return c <= 0 }),
		">":           w.compared(func(c int) bool { return c > 0 }),
		">=":          w.compared(func(c int) bool { return c >= 0 }),
		"MAX":         w.extreme(func(c int) bool { return c > 0 }),
		"MIN":         w.extreme(func(c int) bool { return c < 0 }),
		"ABS":         w.changed(number.Abs),
		"FLOOR":       w.quotient(number.Floor),
		"CEILING":     w.quotient(number.Ceiling),
		"TRUNCATE":    w.quotient(number.Truncate),
		"ROUND":       w.quotient(number.Round),
		"MOD":         second(w.quotient(number.Floor)),
		"REM":         second(w.quotient(number.Truncate)),
		"GCD":         w.collected(number.Gcd),
		"LCM":         w.collected(number.Lcm),
		"LOGAND":      w.folded(-1, boole(8)),
		"LOGIOR":      w.folded(0, boole(14)),
		"LOGXOR":      w.folded(0, boole(6)),
		"LOGNOT":      w.changed(func(x api.Form) (api.Form, api.Errno) { return number.Sub(whole(-1), x) }),
		"ASH":         w.shifted,
		"EXPT":        w.raised,
		"NUMERATOR":   w.changed(number.Numerator),
		"DENOMINATOR": w.changed(number.Denominator),
		"COMPLEX":     w.withDefault(0, number.Complex),
		"REALPART":    w.changed(number.Real),
		"IMAGPART":    w.changed(number.Imaginary),
		"RATIONAL":    w.changed(number.Rational),
		"RATIONALIZE": w.changed(number.Rationalize),
		"FLOAT":       w.floated,
	}
}

// whole returns the form of an integer.
func whole(n int64) api.Form {
	return api.Form{Kind: api.FormInt, Text: strconv.FormatInt(n, 10)}
}

// isBelowZero reports whether an integer is.
func (w *World) isBelowZero(x heap.Word) bool {
	return strings.HasPrefix(w.numberForm(x).Text, "-")
}

// boole returns the operation on bits with a number.
func boole(op int) binary {
	return func(x, y api.Form) (api.Form, api.Errno) { return number.Boole(op, x, y) }
}

// calculated panics with the fault of an error that layer 5 returned. (It is ErrType for no argument that has the type of the table.)
func calculated(e api.Errno) {
	switch e {
	case api.OK:
	case api.ErrZero:
		panic(fault("DIVISION-BY-ZERO"))
	default:
		panic(fault("ARITHMETIC-ERROR"))
	}
}

// forms returns the forms of numbers.
func (w *World) forms(a []heap.Word) []api.Form {
	var out []api.Form
	for _, x := range a {
		out = append(out, w.numberForm(x))
	}
	return out
}

// combined combines numbers from left to right.
func (w *World) combined(x api.Form, a []heap.Word, do binary) []heap.Word {
	for _, y := range a {
		var e api.Errno
		x, e = do(x, w.numberForm(y))
		calculated(e)
	}
	return one(w.numberObject(x))
}

// folded combines all arguments, beginning with a number.
func (w *World) folded(first int64, do binary) operation {
	return func(a []heap.Word) []heap.Word { return w.combined(whole(first), a, do) }
}

// reduced changes one argument, or combines several ones.
func (w *World) reduced(alone unary, do binary) operation {
	return func(a []heap.Word) []heap.Word {
		if len(a) == 1 {
			return w.changed(alone)(a)
		}
		return w.combined(w.numberForm(a[0]), a[1:], do)
	}
}

func (w *World) changed(do unary) operation {
	return func(a []heap.Word) []heap.Word {
		x, e := do(w.numberForm(a[0]))
		calculated(e)
		return one(w.numberObject(x))
	}
}

// withDefault combines two arguments, of which the second one may be left out.
func (w *World) withDefault(otherwise int64, do binary) operation {
	return func(a []heap.Word) []heap.Word {
		y := whole(otherwise)
		if len(a) > 1 {
			y = w.numberForm(a[1])
		}
		x, e := do(w.numberForm(a[0]), y)
		calculated(e)
		return one(w.numberObject(x))
	}
}

func (w *World) collected(do func(l []api.Form) (api.Form, api.Errno)) operation {
	return func(a []heap.Word) []heap.Word {
		x, e := do(w.forms(a))
		calculated(e)
		return one(w.numberObject(x))
	}
}

// holds reports whether two numbers are in a relation.
func (w *World) holds(is func(x, y api.Form) (bool, api.Errno), x, y heap.Word) bool {
	ok, e := is(w.numberForm(x), w.numberForm(y))
	calculated(e)
	return ok
}

// chained tells whether each argument and the next one are in a relation.
func (w *World) chained(is func(x, y api.Form) (bool, api.Errno)) operation {
	return func(a []heap.Word) []heap.Word {
		for i := range a[1:] {
			if !w.holds(is, a[i], a[i+1]) {
				return one(heap.Nil)
			}
		}
		return one(w.truth(true))
	}
}

func (w *World) compared(is func(c int) bool) operation {
	return w.chained(func(x, y api.Form) (bool, api.Errno) {
		c, e := number.Cmp(x, y)
		return e == api.OK && is(c), e
	})
}

// extreme returns the first argument than which no other one is better.
func (w *World) extreme(isBetter func(c int) bool) operation {
	return func(a []heap.Word) []heap.Word {
		best := a[0]
		for _, x := range a[1:] {
			c, e := number.Cmp(w.numberForm(x), w.numberForm(best))
			calculated(e)
			if isBetter(c) {
				best = x
			}
		}
		return one(best)
	}
}

// quotient returns the operation that rounds a quotient in a way.
func (w *World) quotient(way int) operation {
	return func(a []heap.Word) []heap.Word {
		y := whole(1)
		if len(a) > 1 {
			y = w.numberForm(a[1])
		}
		q, r, e := number.Quotient(way, w.numberForm(a[0]), y)
		calculated(e)
		return []heap.Word{w.numberObject(q), w.numberObject(r)}
	}
}

func second(do operation) operation {
	return func(a []heap.Word) []heap.Word { return do(a)[1:] }
}

func (w *World) shifted(a []heap.Word) []heap.Word {
	const mostShift = 65536
	x := w.numberForm(a[0])
	n, ok := a[1].Fixnum()
	switch {
	case !ok && w.isBelowZero(a[1]), ok && n < -mostShift:
		n = -mostShift
	case !ok || n > mostShift:
		if x.Text != "0" {
			panic(fault("ARITHMETIC-ERROR"))
		}
		n = 0
	}
	y, e := number.Shift(x, int(n))
	calculated(e)
	return one(w.numberObject(y))
}

func (w *World) raised(a []heap.Word) []heap.Word {
	const mostPower = 4096
	n, ok := a[1].Fixnum()
	if !ok || n < -mostPower || n > mostPower {
		panic(fault("ARITHMETIC-ERROR"))
	}
	y, e := number.Power(w.numberForm(a[0]), int(n))
	calculated(e)
	return one(w.numberObject(y))
}

func (w *World) floated(a []heap.Word) []heap.Word {
	kind := api.FormSingle
	if len(a) > 1 && w.isFloat(a[1]) {
		kind = w.heap.Kind(a[1])
	} else if w.isFloat(a[0]) {
		return one(a[0])
	}
	y, e := number.Float(w.numberForm(a[0]), kind)
	calculated(e)
	return one(w.numberObject(y))
}
