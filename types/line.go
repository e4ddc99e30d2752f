package types

import (
	"iter"
	"slices"
	"strconv"
	"strings"

	"commonform/api"
	"commonform/float"
	"commonform/number"
)

// line has different rational numbers in their order, which divide all numbers into themselves and the gaps between, ahead of and behind them.
type line []api.Form

func lineOf(values []api.Form) line {
	l := slices.Clone(values)
	slices.SortFunc(l, compare)
	return slices.CompactFunc(l, func(x, y api.Form) bool { return compare(x, y) == 0 })
}

func compare(x, y api.Form) int {
	c, _ := number.Cmp(x, y)
	return c
}

func isLess(x, y api.Form) bool { return compare(x, y) < 0 }

func add(x, y api.Form) api.Form {
	z, _ := number.Add(x, y)
	return z
}

func negative(x api.Form) api.Form {
	z, _ := number.Neg(x)
	return z
}

// floor returns the greatest integer that is not above x.
func floor(x api.Form) api.Form {
	q, _, _ := number.Quotient(number.Floor, x, ofInt(1))
	return q
}

// gap is the numbers between two others; an end that is not set is none.
type gap struct{ low, high bound }

// gaps walks the gaps, from the lowest one on.
func (l line) gaps() iter.Seq[gap] {
	return func(yield func(gap) bool) {
		var low bound
		for _, x := range l {
			high := bound{isSet: true, isOpen: true, value: x}
			if !yield(gap{low, high}) {
				return
			}
			low = high
		}
		yield(gap{low: low})
	}
}

// has reports whether a number lies in a gap.
func (g gap) has(x api.Form) bool { return g.low.allows(x, 1) && g.high.allows(x, -1) }

// stretch is integers that follow one another, of which one is a sample; an end that is not set is none.
type stretch struct {
	low, high bound
	sample    api.Form
}

// stretches walks the stretches of integers: those that divide the line, and those in the gaps.
func (l line) stretches() iter.Seq[stretch] {
	return func(yield func(stretch) bool) {
		for g := range l.gaps() {
			if s, ok := g.stretch(); ok && !yield(s) {
				return
			}
			if x := g.high.value; x.Kind == api.FormInt && !yield(stretch{closed(x), closed(x), x}) {
				return
			}
		}
	}
}

// stretch returns the integers in a gap; false if there are none.
func (g gap) stretch() (stretch, bool) {
	s := stretch{sample: ofInt(0)}
	if g.high.isSet {
		s.high = closed(negative(add(floor(negative(g.high.value)), ofInt(1))))
		s.sample = s.high.value
	}
	if g.low.isSet {
		s.low = closed(add(floor(g.low.value), ofInt(1)))
		s.sample = s.low.value
	}
	return s, g.has(s.sample)
}

func (l line) integers() []api.Form {
	var out []api.Form
	for s := range l.stretches() {
		out = append(out, s.sample)
	}
	return out
}

// ratios returns each ratio that divides the line, and one in each gap.
func (l line) ratios() []api.Form {
	var out []api.Form
	for g := range l.gaps() {
		out = append(out, g.ratio())
		if x := g.high.value; x.Kind == api.FormRatio {
			out = append(out, x)
		}
	}
	return out
}

// ratio returns a ratio in a gap: the middle of its low end, and of the next integer or of its high end, so that there is no integer in between.
func (g gap) ratio() api.Form {
	low := ofInt(0)
	switch {
	case g.low.isSet:
		low = g.low.value
	case g.high.isSet:
		low = add(g.high.value, ofInt(-2))
	}
	next := add(floor(low), ofInt(1))
	if g.high.isSet && isLess(g.high.value, next) {
		next = g.high.value
	}
	middle, _ := number.Div(add(low, next), ofInt(2))
	return middle
}

// floats returns the floats of a kind that divide the line, and one in each gap where there is one.
func (l line) floats(kind int) []api.Form {
	var out []api.Form
	for g := range l.gaps() {
		if x, ok := g.float(kind); ok && g.has(x) {
			out = append(out, x)
		}
		x, e := number.Float(g.high.value, kind) // an error if there is no high end
		if e != api.OK || compare(x, g.high.value) != 0 {
			continue
		}
		out = append(out, x)
		if opposite := negative(x); compare(x, opposite) == 0 { // 0 and -0 are two objects
			out = append(out, opposite)
		}
	}
	return out
}

// float returns the float that is next to an end of a gap; false if there is none.
func (g gap) float(kind int) (api.Form, bool) {
	switch {
	case g.low.isSet:
		return above(g.low.value, kind)
	case g.high.isSet:
		x, ok := above(negative(g.high.value), kind)
		if !ok {
			return api.Form{}, false
		}
		return negative(x), true
	}
	return floatOf(0, kind), true
}

// above returns the least float of a kind that is greater than x; false if there is none.
func above(x api.Form, kind int) (api.Form, bool) {
	near, e := number.Float(x, kind)
	if e != api.OK {
		near = negative(greatest(kind))
		return near, isLess(x, near)
	}
	if isLess(x, near) {
		return near, true
	}
	bits, _ := strconv.ParseUint(near.Text, 16, 64)
	next, e := float.Next(formatOf(kind), bits, true)
	return floatOf(next, kind), e == api.OK
}

func formatOf(kind int) float.Format {
	if kind == api.FormSingle {
		return float.Single
	}
	return float.Double
}

// greatest returns the greatest float of a kind: the one ahead of the infinity.
func greatest(kind int) api.Form {
	if kind == api.FormSingle {
		return floatOf(0x7f7fffff, kind)
	}
	return floatOf(0x7fefffffffffffff, kind)
}

// floatOf returns the float of a kind with these bits.
func floatOf(bits uint64, kind int) api.Form {
	digits := 16
	if kind == api.FormSingle {
		digits = 8
	}
	s := strconv.FormatUint(bits, 16)
	return api.Form{Kind: kind, Text: strings.Repeat("0", digits-len(s)) + s}
}
