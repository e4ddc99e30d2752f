package float

import (
	"math"
	"math/big"
	"math/rand/v2"
	"strconv"
	"strings"
	"testing"

	"commonform/api"
	"commonform/integer"
	"commonform/rational"
)

func ratio(s string) rational.Ratio {
	x, e := rational.Parse(s, 10)
	if e != api.OK {
		panic(s)
	}
	return x
}

func text(x rational.Ratio) string {
	s, _ := x.Text(10)
	return s
}

func toBig(x rational.Ratio) *big.Rat {
	out, ok := new(big.Rat).SetString(text(x))
	if !ok {
		panic(text(x))
	}
	return out
}

// hard returns the value of a float by the machine's own arithmetic.
func hard(f Format, x uint64) float64 {
	if f == Single {
		return float64(math.Float32frombits(uint32(x)))
	}
	return math.Float64frombits(x)
}

func singleBits(x float64) uint64 { return uint64(math.Float32bits(float32(x))) }

// bitsOf returns a result of the machine's arithmetic; the float that is nearest to x.
func bitsOf(f Format, x float64) uint64 {
	if f == Single {
		return singleBits(x)
	}
	return math.Float64bits(x)
}

// random returns floats of all sizes; many are near a power of two, near 1 or below the normal ones.
func random(r *rand.Rand, f Format) uint64 {
	for {
		x := r.Uint64() & (f.sign()<<1 - 1)
		if f == Double {
			x = r.Uint64()
		}
		low := uint64(1)<<f.fraction() - 1
		switch r.IntN(6) {
		case 0:
			x = x &^ low
		case 1:
			x |= low
		case 2:
			x = x & (low | f.sign())
		case 3:
			one := bitsOf(f, 1)
			x = one + x&(low<<3|7) - low<<2
		case 4:
			x = x &^ (low >> 8)
		}
		if check(f, x) == api.OK {
			return x
		}
	}
}

func formats() [2]Format { return [2]Format{Single, Double} }

// special are the floats at the borders of each format.
func special(f Format) []uint64 {
	var out []uint64
	for _, x := range []uint64{0, 1, 2, 3, f.infinity() - 1, f.infinity() - 2, 1 << f.fraction(), 1<<f.fraction() - 1, 1<<f.fraction() + 1, bitsOf(f, 1), bitsOf(f, 1) - 1, bitsOf(f, 1) + 1, bitsOf(f, 10), bitsOf(f, 0.1), bitsOf(f, 0.001), bitsOf(f, 1e7)} {
		out = append(out, x, x|f.sign())
	}
	return out
}

func sampled(r *rand.Rand, f Format, count int) []uint64 {
	out := special(f)
	for len(out) < count {
		out = append(out, random(r, f))
	}
	return out
}

func TestP4_1Errors(t *testing.T) {
	type call struct {
		name string
		f    func(f Format, x uint64) (any, api.Errno)
	}
	calls := []call{
		{"Value", func(f Format, x uint64) (any, api.Errno) { v, e := Value(f, x); return v.Sign(), e }},
		{"Convert", func(f Format, x uint64) (any, api.Errno) { v, e := Convert(f, x, Single); return int(v), e }},
		{"Decode", func(f Format, x uint64) (any, api.Errno) {
			m, n, s, e := Decode(f, x)
			return n*n + s*s + m.Sign(), e
		}},
		{"Precision", func(f Format, x uint64) (any, api.Errno) { return Precision(f, x) }},
		{"Scale", func(f Format, x uint64) (any, api.Errno) { v, e := Scale(f, x, -1); return int(v), e }},
		{"Next", func(f Format, x uint64) (any, api.Errno) { v, e := Next(f, x, true); return int(v), e }},
		{"Neg", func(f Format, x uint64) (any, api.Errno) { v, e := Neg(f, x); return int(v), e }},
		{"Add", func(f Format, x uint64) (any, api.Errno) { v, e := Add(f, 0, x); return int(v), e }},
		{"Sub", func(f Format, x uint64) (any, api.Errno) { v, e := Sub(f, x, 0); return int(v), e }},
		{"Mul", func(f Format, x uint64) (any, api.Errno) { v, e := Mul(f, 1, x); return int(v), e }},
		{"Div", func(f Format, x uint64) (any, api.Errno) { v, e := Div(f, x, 0); return int(v), e }},
		{"Root", func(f Format, x uint64) (any, api.Errno) { v, e := Root(f, x); return int(v), e }},
		{"Compare", func(f Format, x uint64) (any, api.Errno) { return Compare(Double, 1, f, x) }},
		{"Shortest", func(f Format, x uint64) (any, api.Errno) { s, p, e := Shortest(f, x); return len(s) + p*p, e }},
		{"Print", func(f Format, x uint64) (any, api.Errno) { s, e := Print(f, x, Double); return len(s), e }},
	}
	for _, c := range calls {
		for _, x := range []struct {
			f Format
			x uint64
		}{{Single, 0x7f800000}, {Single, 0xff800000}, {Single, 0x7fc00000}, {Single, 0x7f800001}, {Single, 1 << 32}, {Single, 1<<63 | 5}, {Double, 0x7ff0000000000000}, {Double, 0xfff0000000000000}, {Double, 0x7ff8000000000000}, {Double, math.MaxUint64}, {-1, 0}, {2, 0}, {math.MaxInt, 1}, {math.MinInt, 1}} {
			if v, e := c.f(x.f, x.x); e != api.ErrArg || v != 0 {
				t.Errorf("%s(%d, %x) = %v, %v", c.name, x.f, x.x, v, e)
			}
		}
	}
	if _, e := Convert(Single, 0, 2); e != api.ErrArg {
		t.Errorf("Convert to the format 2: %v", e)
	}
	if _, e := Print(Single, 0, -1); e != api.ErrArg {
		t.Errorf("Print with the format -1: %v", e)
	}
	if _, e := Nearest(2, ratio("1")); e != api.ErrArg {
		t.Errorf("Nearest in the format 2: %v", e)
	}
	if _, e := Read(2, strings.Repeat("x", 30000)); e != api.ErrArg {
		t.Errorf("Read in the format 2: %v", e)
	}
}

func TestP4_1Parts(t *testing.T) {
	for _, c := range []struct {
		f    Format
		x    uint64
		m    int64
		e, s int
		n    int
	}{
		{Single, 0x3f800000, 8388608, -23, 1, 24}, {Single, 0, 0, -149, 1, 0}, {Single, 1 << 31, 0, -149, -1, 0}, {Single, 5, 5, -149, 1, 3}, {Single, 0x807fffff, 1<<23 - 1, -149, -1, 23}, {Single, 0x00800000, 1 << 23, -149, 1, 24}, {Single, 0x01000000, 1 << 23, -148, 1, 24}, {Single, 0x7f7fffff, 1<<24 - 1, 104, 1, 24},
		{Double, 0, 0, -1074, 1, 0}, {Double, 1 << 63, 0, -1074, -1, 0}, {Double, 0x7fefffffffffffff, 1<<53 - 1, 971, 1, 53}, {Double, 0xbff0000000000000, 1 << 52, -52, -1, 53}, {Double, 1, 1, -1074, 1, 1},
	} {
		m, e, s, err := Decode(c.f, c.x)
		n, also := Precision(c.f, c.x)
		if err != api.OK || also != api.OK || m.Cmp(integer.New(c.m)) != 0 || e != c.e || s != c.s || n != c.n {
			t.Errorf("Decode(%d, %x) = %v, %d, %d; Precision %d", c.f, c.x, m, e, s, n)
		}
	}
}

func TestP4_1Nearest(t *testing.T) {
	r := rand.New(rand.NewPCG(4, 1))
	for _, f := range formats() {
		for _, x := range sampled(r, f, 1500) {
			v, _ := Value(f, x)
			want := new(big.Rat).SetFloat64(hard(f, x))
			if toBig(v).Cmp(want) != 0 {
				t.Fatalf("Value(%d, %x) = %s", f, x, text(v))
			}
			// Half-way to the next float, and just beside it.
			next, e := Next(f, x, r.IntN(2) == 0)
			if e != api.OK {
				continue
			}
			w, _ := Value(f, next)
			half := v.Add(w).Mul(ratio("1/2"))
			tiny, _ := ratio("1/2").Power(2000)
			for _, y := range []rational.Ratio{half, half.Add(tiny), half.Sub(tiny), v.Add(tiny), v.Sub(tiny)} {
				var want uint64
				if f == Single {
					z, _ := toBig(y).Float32()
					want = uint64(math.Float32bits(z))
				} else {
					z, _ := toBig(y).Float64()
					want = math.Float64bits(z)
				}
				if got, e := Nearest(f, y); e != api.OK || got != want {
					t.Fatalf("Nearest(%d) of %s = %x, %v; want %x", f, text(y), got, e, want)
				}
			}
		}
	}
}

func TestP4_1NearestLimits(t *testing.T) {
	power := func(n int) rational.Ratio { x, _ := ratio("2").Power(n); return x }
	huge := rational.Of(integer.Make(false, append(make([]uint32, 5000), 1)))
	tiny, _ := ratio("1").Div(huge)
	for _, c := range []struct {
		f    Format
		x    rational.Ratio
		want uint64
		e    api.Errno
	}{
		{Single, power(128).Sub(power(103)).Sub(ratio("1")), 0x7f7fffff, api.OK}, {Single, power(128).Sub(power(103)), 0, api.ErrOver}, {Single, power(103).Sub(power(128)), 0, api.ErrOver}, {Single, power(128), 0, api.ErrOver},
		{Double, power(1024).Sub(power(970)), 0, api.ErrOver}, {Double, power(1024).Sub(power(970)).Sub(tiny), 0x7fefffffffffffff, api.OK}, {Double, huge, 0, api.ErrOver}, {Double, huge.Neg(), 0, api.ErrOver},
		{Single, tiny, 0, api.OK}, {Single, tiny.Neg(), 1 << 31, api.OK}, {Double, tiny.Neg(), 1 << 63, api.OK}, {Single, rational.Ratio{}, 0, api.OK},
		{Single, power(-150), 0, api.OK}, {Single, power(-150).Neg(), 1 << 31, api.OK}, {Single, power(-150).Add(tiny), 1, api.OK}, {Single, power(-149), 1, api.OK}, {Double, power(-1075), 0, api.OK}, {Double, power(-1075).Add(tiny), 1, api.OK},
		{Double, huge.Add(ratio("1")).Mul(tiny), 0x3ff0000000000000, api.OK}, {Double, huge.Mul(ratio("3")).Add(ratio("1")).Mul(tiny), 0x4008000000000000, api.OK},
		{Single, ratio("1/3"), 0x3eaaaaab, api.OK}, {Double, ratio("1/3"), 0x3fd5555555555555, api.OK},
	} {
		if got, e := Nearest(c.f, c.x); e != c.e || got != c.want {
			t.Errorf("Nearest(%d) of %.30s = %x, %v; want %x, %v", c.f, text(c.x), got, e, c.want, c.e)
		}
	}
}

func TestP4_1Scale(t *testing.T) {
	r := rand.New(rand.NewPCG(4, 12))
	for _, f := range formats() {
		for _, x := range sampled(r, f, 500) {
			n := r.IntN(400) - 200
			if hard(f, x) == 0 {
				n = []int{0, 5, math.MaxInt, math.MinInt}[r.IntN(4)]
			}
			want := bitsOf(f, math.Ldexp(hard(f, x), n))
			got, e := Scale(f, x, n)
			if over := check(f, want) != api.OK; over && (e != api.ErrOver || got != 0) || !over && (got != want || e != api.OK) {
				t.Fatalf("Scale(%d, %x, %d) = %x, %v; want %x", f, x, n, got, e, want)
			}
		}
	}
	for _, c := range []struct {
		f    Format
		x    uint64
		n    int
		want uint64
		e    api.Errno
	}{
		{Single, 1, 276, 0x7f000000, api.OK}, {Single, 1, 277, 0, api.ErrOver}, {Single, 0x80000001, math.MinInt, 0x80000000, api.OK}, {Single, 1, math.MaxInt, 0, api.ErrOver}, {Double, 1, 2097, 0x7fe0000000000000, api.OK}, {Double, 1, 2098, 0, api.ErrOver}, {Double, 0x7fefffffffffffff, -2097, 2, api.OK}, {Double, 0x7fefffffffffffff, -2100, 0, api.OK}, {Double, 0xffefffffffffffff, -2100, 1 << 63, api.OK}, {Single, 3, -1, 2, api.OK}, {Single, 1, -1, 0, api.OK},
	} {
		if got, e := Scale(c.f, c.x, c.n); e != c.e || got != c.want {
			t.Errorf("Scale(%d, %x, %d) = %x, %v", c.f, c.x, c.n, got, e)
		}
	}
}

func TestP4_1Arithmetic(t *testing.T) {
	r := rand.New(rand.NewPCG(4, 13))
	type op struct {
		name string
		f    func(f Format, x, y uint64) (uint64, api.Errno)
		want func(x, y float64) float64
		half func(x, y float32) float32
	}
	ops := []op{
		{"Add", Add, func(x, y float64) float64 { return x + y }, func(x, y float32) float32 { return x + y }},
		{"Sub", Sub, func(x, y float64) float64 { return x - y }, func(x, y float32) float32 { return x - y }},
		{"Mul", Mul, func(x, y float64) float64 { return x * y }, func(x, y float32) float32 { return x * y }},
		{"Div", Div, func(x, y float64) float64 { return x / y }, func(x, y float32) float32 { return x / y }},
	}
	for _, f := range formats() {
		l := sampled(r, f, 110)
		for _, o := range ops {
			for _, x := range l {
				for _, y := range l {
					want := math.Float64bits(o.want(math.Float64frombits(x), math.Float64frombits(y)))
					if f == Single {
						want = uint64(math.Float32bits(o.half(math.Float32frombits(uint32(x)), math.Float32frombits(uint32(y)))))
					}
					code := api.OK
					switch {
					case o.name == "Div" && hard(f, y) == 0:
						want, code = 0, api.ErrZero
					case check(f, want) != api.OK:
						want, code = 0, api.ErrOver
					}
					if got, e := o.f(f, x, y); got != want || e != code {
						t.Fatalf("%s(%d, %x, %x) = %x, %v; want %x, %v", o.name, f, x, y, got, e, want, code)
					}
				}
			}
		}
	}
}

func TestP4_1RootAndCompare(t *testing.T) {
	r := rand.New(rand.NewPCG(4, 14))
	for _, f := range formats() {
		for _, x := range sampled(r, f, 1500) {
			negated, e := Neg(f, x)
			if e != api.OK || negated != x^f.sign() {
				t.Fatalf("Neg(%d, %x) = %x, %v", f, x, negated, e)
			}
			got, e := Root(f, x)
			if hard(f, x) < 0 {
				if got != 0 || e != api.ErrArg {
					t.Fatalf("Root(%d, %x) = %x, %v", f, x, got, e)
				}
				continue
			}
			if want := bitsOf(f, math.Sqrt(hard(f, x))); got != want || e != api.OK {
				t.Fatalf("Root(%d, %x) = %x, %v; want %x", f, x, got, e, want)
			}
		}
		for _, g := range formats() {
			for range 1500 {
				x, y := random(r, f), random(r, g)
				if r.IntN(3) == 0 && f <= g {
					y, _ = Convert(f, x, g)
				}
				want := 0
				switch a, b := hard(f, x), hard(g, y); {
				case a < b:
					want = -1
				case a > b:
					want = 1
				}
				if n, e := Compare(f, x, g, y); e != api.OK || n != want {
					t.Fatalf("Compare(%d, %x, %d, %x) = %d, %v", f, x, g, y, n, e)
				}
			}
		}
	}
}

func TestP4_2Values(t *testing.T) {
	r := rand.New(rand.NewPCG(4, 2))
	for _, f := range formats() {
		for _, x := range sampled(r, f, 1000) {
			v, _ := Value(f, x)
			want := x
			if v.Sign() == 0 {
				want = 0
			}
			if back, e := Nearest(f, v); e != api.OK || back != want {
				t.Fatalf("Nearest of Value of %x: %x, %v", x, back, e)
			}
			wide, e := Convert(f, x, Double)
			if e != api.OK || hard(Double, wide) != hard(f, x) {
				t.Fatalf("Convert(%d, %x, Double) = %x, %v", f, x, wide, e)
			}
			if back, e := Convert(Double, wide, f); e != api.OK || back != x {
				t.Fatalf("Convert of %x there and back: %x, %v", x, back, e)
			}
		}
	}
	for range 1500 {
		x := random(r, Double)
		want := singleBits(hard(Double, x))
		got, e := Convert(Double, x, Single)
		if over := check(Single, want) != api.OK; over && (e != api.ErrOver || got != 0) || !over && (got != want || e != api.OK) {
			t.Fatalf("Convert(Double, %x, Single) = %x, %v", x, got, e)
		}
	}
	// Nearest does not fall, and is one of the two neighbours.
	for range 1500 {
		n, d := int64(r.Uint64()>>(r.IntN(63))), int64(r.Uint64()>>1>>(r.IntN(62)))+1
		x, _ := rational.New(integer.New(n), integer.New(d))
		y := x.Add(ratio("1/1000000000000000"))
		a, _ := Nearest(Single, x)
		b, _ := Nearest(Single, y)
		if hard(Single, a) > hard(Single, b) {
			t.Fatalf("Nearest falls: %s, %s", text(x), text(y))
		}
		v, _ := Value(Single, a)
		if c := v.Cmp(x); c != 0 {
			other, e := Next(Single, a, c < 0)
			w, _ := Value(Single, other)
			if e == api.OK && w.Cmp(x) == c {
				t.Fatalf("Nearest of %s is no neighbour", text(x))
			}
		}
	}
}

func TestP4_3Neighbours(t *testing.T) {
	r := rand.New(rand.NewPCG(4, 3))
	for _, f := range formats() {
		for _, x := range sampled(r, f, 1500) {
			up, e := Next(f, x, true)
			if f == Double {
				want := math.Float64bits(math.Nextafter(hard(f, x), math.Inf(1)))
				if want == 1<<63 {
					want = 0
				}
				if e == api.OK && up != want {
					t.Fatalf("Next of %x = %x; want %x", x, up, want)
				}
			}
			if x == f.infinity()-1 {
				if e != api.ErrOver || up != 0 {
					t.Fatalf("Next of the greatest: %x, %v", up, e)
				}
				continue
			}
			if e != api.OK || hard(f, up) <= hard(f, x) || up == f.sign() {
				t.Fatalf("Next(%d, %x) = %x, %v", f, x, up, e)
			}
			down, e := Next(f, up, false)
			if want := x; e != api.OK || down != want && !(want == f.sign() && down == 0) {
				t.Fatalf("Next down of Next up of %x: %x, %v", x, down, e)
			}
			// What is nearest to the middle, or beside it, is one of both: there is nothing in between.
			v, _ := Value(f, x)
			w, _ := Value(f, up)
			if m, e := Nearest(f, v.Add(w).Mul(ratio("1/2"))); e != api.OK || hard(f, m) != hard(f, x) && hard(f, m) != hard(f, up) {
				t.Fatalf("between %x and %x: %x", x, up, m)
			}
		}
	}
	if x, e := Next(Single, 0xff7fffff, false); e != api.ErrOver || x != 0 {
		t.Errorf("Next of the least: %x, %v", x, e)
	}
}

func TestP4_4Laws(t *testing.T) {
	r := rand.New(rand.NewPCG(4, 4))
	for _, f := range formats() {
		for range 1500 {
			x, y := random(r, f), random(r, f)
			a, e1 := Add(f, x, y)
			b, e2 := Add(f, y, x)
			c, e3 := Mul(f, x, y)
			d, e4 := Mul(f, y, x)
			if a != b || e1 != e2 || c != d || e3 != e4 {
				t.Fatalf("%x and %x are not commutative", x, y)
			}
			negated, _ := Neg(f, x)
			if z, e := Add(f, x, negated); z != 0 || e != api.OK {
				t.Fatalf("Add of %x and Neg: %x, %v", x, z, e)
			}
			n := r.IntN(20) - 10
			power, _ := Scale(f, bitsOf(f, 1), n)
			m, e5 := Mul(f, x, power)
			if s, e := Scale(f, x, n); s != m || e != e5 {
				t.Fatalf("%x times 2^%d: %x, %x", x, n, m, s)
			}
			if square, e := Mul(f, x, x); e == api.OK {
				v, _ := Value(f, x)
				w, _ := Value(f, square)
				if root, e := Root(f, square); w.Sign() != 0 && v.Mul(v).Cmp(w) == 0 && (e != api.OK || root != x&^f.sign()) {
					t.Fatalf("Root of %x squared: %x", x, root)
				}
			}
		}
	}
	for range 1500 {
		x := random(r, Single)
		y := x ^ 1<<31
		y = y - y&0xff + r.Uint64()&0xff
		v, _ := Value(Single, x)
		w, _ := Value(Single, y)
		if ratio := math.Abs(hard(Single, x) / hard(Single, y)); !(ratio >= 0.5 && ratio <= 2) {
			continue
		}
		z, e := Add(Single, x, y)
		if u, _ := Value(Single, z); e != api.OK || u.Cmp(v.Add(w)) != 0 {
			t.Fatalf("the sum of %x and %x is not exact", x, y)
		}
	}
}

func TestP4_1Shortest(t *testing.T) {
	r := rand.New(rand.NewPCG(4, 15))
	for _, f := range formats() {
		width := 32
		if f == Double {
			width = 64
		}
		for _, x := range sampled(r, f, 3000) {
			digits, point, e := Shortest(f, x)
			if e != api.OK {
				t.Fatalf("Shortest(%d, %x): %v", f, x, e)
			}
			if hard(f, x) == 0 {
				if digits != "0" || point != 0 {
					t.Fatalf("Shortest of 0: %s, %d", digits, point)
				}
				continue
			}
			s := strconv.FormatFloat(math.Abs(hard(f, x)), 'e', -1, width)
			mantissa, exponent, _ := strings.Cut(s, "e")
			n, _ := strconv.Atoi(exponent)
			if want := strings.Replace(mantissa, ".", "", 1); digits != want || point != n+1 {
				t.Fatalf("Shortest(%d, %x) = %s, %d; want %s, %d", f, x, digits, point, want, n+1)
			}
		}
	}
}

// Two numbers with the same count of digits can be equally near: that with the even last digit is meant.
func TestP4_1ShortestEven(t *testing.T) {
	for _, c := range []struct {
		f      Format
		x      float64
		digits string
	}{{Single, 2097152.25, "20971522"}, {Single, 2097152.75, "20971528"}, {Single, 2097155.25, "20971552"}, {Double, 1125899906842624.25, "11258999068426242"}, {Double, 1125899906842624.75, "11258999068426248"}} {
		if s, _, e := Shortest(c.f, bitsOf(c.f, c.x)); e != api.OK || s != c.digits {
			t.Errorf("Shortest of %v = %s, %v; want %s", c.x, s, e, c.digits)
		}
	}
}

func TestP4_1Places(t *testing.T) {
	for _, c := range []struct {
		x    string
		n    int
		want string
		e    api.Errno
	}{
		{"1/8", 2, "0.12", api.OK}, {"3/8", 2, "0.38", api.OK}, {"-1/1000", 2, "0.00", api.OK}, {"5/2", 0, "2.", api.OK}, {"7/2", 0, "4.", api.OK}, {"-5/2", 0, "-2.", api.OK}, {"1/2", 0, "0.", api.OK}, {"-1/2", 0, "0.", api.OK}, {"0", 3, "0.000", api.OK}, {"-1234567/1000", 1, "-1234.6", api.OK}, {"99995/10000", 3, "10.000", api.OK}, {"-3/400", 2, "-0.01", api.OK}, {"1/200", 2, "0.00", api.OK}, {"1/20", 1, "0.0", api.OK}, {"3/20", 1, "0.2", api.OK},
		{"1", -1, "", api.ErrArg}, {"1", 401, "", api.ErrArg}, {"1", math.MaxInt, "", api.ErrArg},
	} {
		if s, e := Places(ratio(c.x), c.n); e != c.e || s != c.want {
			t.Errorf("Places(%s, %d) = %q, %v; want %q", c.x, c.n, s, e, c.want)
		}
	}
	if s, e := Places(ratio("1/3"), 400); e != api.OK || s != "0."+strings.Repeat("3", 400) {
		t.Errorf("400 places: %q, %v", s, e)
	}
}

func TestP4_1Read(t *testing.T) {
	for _, c := range []struct {
		f    Format
		s    string
		want uint64
		e    api.Errno
	}{
		{Single, "-.5e1", 0xc0a00000, api.OK}, {Single, "+1", 0x3f800000, api.OK}, {Single, "1.", 0x3f800000, api.OK}, {Single, ".1E+1", 0x3f800000, api.OK}, {Single, "000100.00e-00002", 0x3f800000, api.OK}, {Single, "-0.0e5", 0x80000000, api.OK}, {Single, "0e99999999999999999999999", 0, api.OK}, {Single, "-0e-99999999999999999999999", 0x80000000, api.OK},
		{Single, "1e39", 0, api.ErrOver}, {Single, "1e99999999999999999999999", 0, api.ErrOver}, {Double, "-1e309", 0, api.ErrOver}, {Single, "1e-99999999999999999999999", 0, api.OK}, {Single, "-1e-60", 0x80000000, api.OK},
		{Single, "16777217", 0x4b800000, api.OK}, {Single, "16777217.00000000000000000000000000000000000000001", 0x4b800001, api.OK}, {Single, "16777219", 0x4b800002, api.OK}, {Single, "3.4028235e38", 0x7f7fffff, api.OK}, {Single, "3.4028236e38", 0, api.ErrOver}, {Single, "340282356779733661637539395458142568447.9", 0x7f7fffff, api.OK}, {Single, "340282356779733661637539395458142568448", 0, api.ErrOver},
		{Double, "2.47032822920623272088284396434110686182e-324", 0, api.OK}, {Double, "2.4703282292062327208828439643411068618253e-324", 1, api.OK}, {Double, "5e-324", 1, api.OK},
		{Single, "", 0, api.ErrForm}, {Single, ".", 0, api.ErrForm}, {Single, "-", 0, api.ErrForm}, {Single, "+.", 0, api.ErrForm}, {Single, "e1", 0, api.ErrForm}, {Single, ".e1", 0, api.ErrForm}, {Single, "1e", 0, api.ErrForm}, {Single, "1e+", 0, api.ErrForm}, {Single, "1e1.", 0, api.ErrForm}, {Single, "1e1e1", 0, api.ErrForm}, {Single, "1d0", 0, api.ErrForm}, {Single, "--1", 0, api.ErrForm}, {Single, " 1", 0, api.ErrForm}, {Single, "1 ", 0, api.ErrForm}, {Single, "1.2.3", 0, api.ErrForm}, {Single, "1_0", 0, api.ErrForm}, {Single, "inf", 0, api.ErrForm}, {Single, "0x1", 0, api.ErrForm}, {Single, "٣", 0, api.ErrForm},
	} {
		if got, e := Read(c.f, c.s); e != c.e || got != c.want {
			t.Errorf("Read(%d, %q) = %x, %v; want %x, %v", c.f, c.s, got, e, c.want, c.e)
		}
	}
	// Long texts: what one end adds the other takes away.
	zeros := strings.Repeat("0", 9000)
	for s, want := range map[string]uint64{"1" + zeros + "e-9000": 0x3f800000, "0." + zeros + "1e9001": 0x3f800000, zeros + "1": 0x3f800000, "1." + zeros + zeros: 0x3f800000, "1" + zeros + "1" + zeros + "e-18001": 0x3f800000, "0." + zeros + zeros + "25e18002": 0x41c80000} {
		if got, e := Read(Single, s); e != api.OK || got != want {
			t.Errorf("Read(%.10q..%q) = %x, %v", s, s[len(s)-8:], got, e)
		}
	}
	long := strings.Repeat("9", api.MaxDigits-8)
	if got, e := Read(Single, long+"e-"+strconv.Itoa(len(long))); e != api.OK || got != 0x3f800000 {
		t.Errorf("Read of many nines: %x, %v", got, e)
	}
	if got, e := Read(Single, "0."+strings.Repeat("0", 19980)+"1e30000"); e != api.ErrOver || got != 0 {
		t.Errorf("Read of a great exponent behind many zeros: %x, %v", got, e)
	}
	if got, e := Read(Single, strings.Repeat("1", 19980)+"e-30000"); e != api.OK || got != 0 {
		t.Errorf("Read of a low exponent behind many digits: %x, %v", got, e)
	}
	if _, e := Read(Single, strings.Repeat("1", api.MaxDigits+1)); e != api.ErrLarge {
		t.Errorf("a text that is too long: %v", e)
	}
	if _, e := Read(Single, strings.Repeat("x", api.MaxDigits)); e != api.ErrForm {
		t.Errorf("a long text: %v", e)
	}
	if _, e := Read(Single, strings.Repeat("1", api.MaxDigits)); e != api.ErrOver {
		t.Errorf("a long number: %v", e)
	}
	r := rand.New(rand.NewPCG(4, 16))
	for range 3000 {
		s := strconv.FormatUint(r.Uint64()>>r.IntN(64), 10) + "." + strconv.FormatUint(r.Uint64()>>r.IntN(64), 10) + "e" + strconv.Itoa(r.IntN(90)-60)
		x, err := strconv.ParseFloat(s, 32)
		if err != nil {
			x = 0
		}
		if got, e := Read(Single, s); got != singleBits(x) || (e == api.ErrOver) != (err != nil) {
			t.Fatalf("Read(Single, %q) = %x, %v; want %x", s, got, e, singleBits(x))
		}
		x, _ = strconv.ParseFloat(s, 64)
		if got, e := Read(Double, s); got != math.Float64bits(x) || e != api.OK {
			t.Fatalf("Read(Double, %q) = %x, %v; want %x", s, got, e, math.Float64bits(x))
		}
	}
}

func TestP4_1Print(t *testing.T) {
	for _, c := range []struct {
		f     Format
		x     uint64
		usual Format
		want  string
	}{
		{Single, 0x3dcccccd, Single, "0.1"}, {Single, 0x4b189680, Single, "1.0e7"}, {Single, 0x3dcccccd, Double, "0.1f0"}, {Single, 0x4b189680, Double, "1.0f7"}, {Single, 1, Single, "1.0e-45"}, {Single, 0, Single, "0.0"}, {Single, 1 << 31, Double, "-0.0f0"}, {Double, 1 << 63, Single, "-0.0d0"}, {Double, 0, Double, "0.0"},
		{Single, singleBits(0.001), Single, "0.001"}, {Single, singleBits(0.001) - 1, Single, "9.999999e-4"}, {Double, bitsOf(Double, 0.001), Double, "0.001"}, {Double, bitsOf(Double, 0.001) - 1, Double, "9.999999999999998e-4"}, {Double, bitsOf(Double, 1e7) - 1, Double, "9999999.999999998"}, {Double, bitsOf(Double, 1e7), Single, "1.0d7"}, {Double, bitsOf(Double, 123456.5), Single, "123456.5d0"}, {Double, bitsOf(Double, -1.5e-10), Single, "-1.5d-10"}, {Double, 0x7fefffffffffffff, Double, "1.7976931348623157e308"}, {Single, 0x7f7fffff, Single, "3.4028235e38"}, {Single, singleBits(100), Single, "100.0"}, {Single, singleBits(9999999), Single, "9999999.0"}, {Double, 1, Double, "5.0e-324"}, {Single, singleBits(0.0125), Single, "0.0125"},
	} {
		if s, e := Print(c.f, c.x, c.usual); e != api.OK || s != c.want {
			t.Errorf("Print(%d, %x, %d) = %q, %v; want %q", c.f, c.x, c.usual, s, e, c.want)
		}
	}
}

func TestP4_5Texts(t *testing.T) {
	r := rand.New(rand.NewPCG(4, 5))
	for _, f := range formats() {
		for _, x := range sampled(r, f, 1500) {
			s, _ := Print(f, x, Format(r.IntN(2)))
			s = strings.NewReplacer("f", "e", "d", "e").Replace(s)
			if back, e := Read(f, s); e != api.OK || back != x {
				t.Fatalf("Read of Print of %x: %q, %x, %v", x, s, back, e)
			}
			mantissa, exponent, _ := strings.Cut(s, "e")
			if exponent == "" {
				exponent = "0"
			}
			if back, e := Read(f, mantissa+strings.Repeat("0", r.IntN(40))+"e"+exponent); e != api.OK || back != x {
				t.Fatalf("Read of %q with more zeros: %x, %v", s, back, e)
			}
			digits, point, _ := Shortest(f, x)
			if len(digits) < 2 {
				continue
			}
			// All shorter numbers that could be meant are those next to it.
			short, _ := strconv.ParseInt(digits[:len(digits)-1], 10, 64)
			for _, n := range []int64{short, short + 1} {
				back, _ := Read(f, strconv.FormatInt(n, 10)+"e"+strconv.Itoa(point-len(digits)+1))
				if back == x&^f.sign() {
					t.Fatalf("%d is enough for %x, not %s", n, x, digits)
				}
			}
		}
	}
}

func TestP4_6Places(t *testing.T) {
	r := rand.New(rand.NewPCG(4, 6))
	for range 1500 {
		x, _ := rational.New(integer.New(int64(r.Uint64())>>r.IntN(60)), integer.New(1+int64(r.Uint64()>>(1+r.IntN(60)))>>1))
		n := r.IntN(30)
		s, e := Places(x, n)
		if e != api.OK {
			t.Fatalf("Places(%s, %d): %v", text(x), n, e)
		}
		digits := strings.Replace(s, ".", "", 1)
		units, e := integer.Parse(digits, 10)
		if e != api.OK || len(s)-strings.Index(s, ".") != n+1 || strings.HasPrefix(s, "-") != (units.Sign() < 0) {
			t.Fatalf("Places(%s, %d) = %q", text(x), n, s)
		}
		power, _ := ratio("10").Power(n)
		distance := x.Mul(power).Sub(rational.Of(units)).Abs()
		if c := distance.Cmp(ratio("1/2")); c > 0 || c == 0 && units.Odd() {
			t.Fatalf("Places(%s, %d) = %q", text(x), n, s)
		}
	}
}
