package float

import (
	"strconv"
	"strings"

	"commonform/api"
	"commonform/integer"
	"commonform/rational"
)

// Shortest returns the shortest decimal digits from which a float is read back, and the place of the point.
func Shortest(f Format, x uint64) (digits string, point int, e api.Errno) {
	if e := check(f, x); e != api.OK {
		return "", 0, e
	}
	p := split(f, x)
	if p.m == 0 {
		return "0", 0, api.OK
	}
	digits, point = shortest(rangeOf(f, p))
	return digits, point, api.OK
}

// room is the range of numbers to which a float is nearest: all have the same denominator.
type room struct {
	low, middle, high, d integer.Int
	closed               bool // both ends are part of it
}

// rangeOf returns the range of a float above 0. Its ends are half-way to the neighbours; below a power of two the neighbour is nearer.
func rangeOf(f Format, p parts) room {
	m := int64(p.m) * 4
	low := m - 2
	if p.m == 1<<f.fraction() && p.e > f.least() {
		low = m - 1
	}
	unit, d := twos(p.e-2), twos(2-p.e)
	in := func(n int64) integer.Int { return integer.New(n).Mul(unit) }
	return room{in(low), in(m), in(m + 2), d, p.m&1 == 0}
}

// shortest looks for the fewest digits: of each number of digits just the two numbers next to the float can be meant.
func shortest(r room) (digits string, point int) {
	point = pointOf(r.middle, r.d)
	var found integer.Int
	count := 1
search:
	for ; ; count++ {
		// All is counted in units of the last digit: numerators are multiplied by scale, and the denominator is d.
		scale, d := tens(count-point), r.d.Mul(tens(point-count))
		fits := func(c integer.Int) bool {
			n := c.Mul(d)
			down, up := n.Cmp(r.low.Mul(scale)), n.Cmp(r.high.Mul(scale))
			return down > 0 && up < 0 || r.closed && (down == 0 || up == 0)
		}
		for _, c := range nearer(r.middle.Mul(scale), d) {
			if fits(c) {
				found = c
				break search
			}
		}
	}
	digits, _ = found.Text(10)
	// One digit more than was looked for: a power of ten just above.
	return strings.TrimRight(digits, "0"), point + len(digits) - count
}

// nearer returns both integers next to n/d, the nearer one first, of two equally near ones the even one.
func nearer(n, d integer.Int) [2]integer.Int {
	below, rest, _ := n.Divide(d)
	above := below.Add(integer.New(1))
	half := rest.Add(rest).Cmp(d)
	if half > 0 || half == 0 && below.Odd() {
		return [2]integer.Int{above, below}
	}
	return [2]integer.Int{below, above}
}

// pointOf returns the least power of ten that is above n/d: it is guessed from the number of bits, and then put right.
func pointOf(n, d integer.Int) int {
	p := (n.Length() - d.Length()) * 3 / 10
	above := func(p int) bool { return n.Mul(tens(-p)).Cmp(d.Mul(tens(p))) < 0 }
	for !above(p) {
		p++
	}
	for above(p - 1) {
		p--
	}
	return p
}

// Places returns a fraction with so many decimal places.
func Places(x rational.Ratio, n int) (string, api.Errno) {
	if n < 0 || n > 400 {
		return "", api.ErrArg
	}
	units, _, _ := x.Mul(rational.Of(tens(n))).Quotient(rational.Round, rational.Of(integer.New(1)))
	digits, _ := units.Abs().Text(10)
	digits = strings.Repeat("0", max(0, n+1-len(digits))) + digits
	text := digits[:len(digits)-n] + "." + digits[len(digits)-n:]
	if units.Sign() < 0 {
		return "-" + text, api.OK
	}
	return text, api.OK
}

// Print returns the text of a float.
func Print(f Format, x uint64, usual Format) (string, api.Errno) {
	if !f.known() || !usual.known() {
		return "", api.ErrArg
	}
	digits, point, e := Shortest(f, x)
	if e != api.OK {
		return "", e
	}
	sign := ""
	if split(f, x).negative {
		sign = "-"
	}
	letter := "e"
	if f != usual {
		letter = [...]string{Single: "f", Double: "d"}[f]
	}
	switch {
	case !plain(value(f, x).Abs()):
		return sign + pointed(digits, 1) + letter + strconv.Itoa(point-1), api.OK
	case f != usual:
		return sign + pointed(digits, point) + letter + "0", api.OK
	}
	return sign + pointed(digits, point), api.OK
}

// plain reports whether a number is printed without an exponent.
func plain(x rational.Ratio) bool {
	low, _ := rational.New(integer.New(1), integer.New(1000))
	high := rational.Of(integer.New(10000000))
	return x.Sign() == 0 || x.Cmp(low) >= 0 && x.Cmp(high) < 0
}

// pointed returns 0.digits times ten to the power of point, with at least one digit on each side.
func pointed(digits string, point int) string {
	switch {
	case point <= 0:
		return "0." + strings.Repeat("0", -point) + digits
	case point >= len(digits):
		return digits + strings.Repeat("0", point-len(digits)) + ".0"
	}
	return digits[:point] + "." + digits[point:]
}
