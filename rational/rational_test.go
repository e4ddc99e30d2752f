package rational

import (
	"math"
	"math/big"
	"math/rand/v2"
	"strings"
	"testing"

	"commonform/api"
	"commonform/integer"
)

func whole(n int64) integer.Int { return integer.New(n) }

func ratio(s string) Ratio {
	x, e := Parse(s, 10)
	if e != api.OK {
		panic(s)
	}
	return x
}

func text(x Ratio) string {
	s, _ := x.Text(10)
	return s
}

func decimal(x integer.Int) string {
	s, _ := x.Text(10)
	return s
}

// toBig returns x as a fraction of the library, which the tests hold against it.
func toBig(x Ratio) *big.Rat {
	out, ok := new(big.Rat).SetString(text(x))
	if !ok {
		panic(text(x))
	}
	return out
}

func samples(r *rand.Rand, count int) []Ratio {
	var out []Ratio
	for _, s := range []string{"0", "1", "-1", "1/2", "-1/2", "3/2", "-7/3", "1/3", "2", "-6", "4294967296/4294967295", "18446744073709551615/2", "1/18446744073709551616"} {
		out = append(out, ratio(s))
	}
	for len(out) < count {
		limits := []int64{5, 100, math.MaxInt64}
		n := whole(r.Int64N(limits[r.IntN(3)])).Mul(whole(r.Int64N(limits[r.IntN(2)])))
		d := whole(1 + r.Int64N(limits[r.IntN(3)]-1)).Mul(whole(1 + r.Int64N(limits[r.IntN(2)])))
		if r.IntN(2) == 0 {
			n = n.Neg()
		}
		x, _ := New(n, d)
		out = append(out, x)
	}
	return out
}

// expect holds a result against a fraction, also its form.
func expect(t *testing.T, what string, got Ratio, want *big.Rat) {
	t.Helper()
	if toBig(got).Cmp(want) != 0 || decimal(got.Numerator()) != want.Num().String() || decimal(got.Denominator()) != want.Denom().String() {
		t.Fatalf("%s = %s; want %s", what, text(got), want)
	}
}

func TestP3_1Fractions(t *testing.T) {
	for _, c := range []struct {
		n, d int64
		want string
		e    api.Errno
	}{{6, -4, "-3/2", api.OK}, {0, -5, "0", api.OK}, {-6, -3, "2", api.OK}, {5, 1, "5", api.OK}, {1, 0, "0", api.ErrZero}, {0, 0, "0", api.ErrZero}, {math.MinInt64, math.MinInt64, "1", api.OK}, {7, 21, "1/3", api.OK}} {
		x, e := New(whole(c.n), whole(c.d))
		if e != c.e || text(x) != c.want || x.Whole() != !strings.Contains(c.want, "/") || x.Denominator().Sign() != 1 {
			t.Errorf("New(%d, %d) = %s, %v", c.n, c.d, text(x), e)
		}
	}
	var zero Ratio
	if text(zero) != "0" || decimal(zero.Numerator()) != "0" || decimal(zero.Denominator()) != "1" || !zero.Whole() || zero.Sign() != 0 || zero.Cmp(Of(whole(0))) != 0 {
		t.Error("the zero value is not 0")
	}
	if x := Of(whole(-9)); text(x) != "-9" || !x.Whole() || x.Sign() != -1 {
		t.Errorf("Of(-9) = %s", text(x))
	}
}

func TestP3_1Arithmetic(t *testing.T) {
	r := rand.New(rand.NewPCG(3, 1))
	l := samples(r, 70)
	for _, x := range l {
		a := toBig(x)
		expect(t, "Neg", x.Neg(), new(big.Rat).Neg(a))
		expect(t, "Abs", x.Abs(), new(big.Rat).Abs(a))
		for _, y := range l {
			b := toBig(y)
			expect(t, "Add", x.Add(y), new(big.Rat).Add(a, b))
			expect(t, "Sub", x.Sub(y), new(big.Rat).Sub(a, b))
			expect(t, "Mul", x.Mul(y), new(big.Rat).Mul(a, b))
			if x.Cmp(y) != a.Cmp(b) {
				t.Fatalf("Cmp of %s and %s: %d", a, b, x.Cmp(y))
			}
			q, e := x.Div(y)
			if y.Sign() == 0 {
				if e != api.ErrZero || q.Sign() != 0 {
					t.Fatalf("%s/0: %v", a, e)
				}
				continue
			}
			expect(t, "Div", q, new(big.Rat).Quo(a, b))
		}
	}
}

func TestP3_1Powers(t *testing.T) {
	for _, c := range []struct {
		x    string
		n    int
		want string
		e    api.Errno
	}{
		{"2/3", 3, "8/27", api.OK}, {"-2/3", -3, "-27/8", api.OK}, {"0", 0, "1", api.OK}, {"5/7", 0, "1", api.OK}, {"0", 9, "0", api.OK}, {"0", -1, "0", api.ErrZero}, {"0", math.MinInt, "0", api.ErrZero},
		{"1", math.MinInt, "1", api.OK}, {"-1", math.MinInt, "1", api.OK}, {"-1", math.MinInt + 1, "-1", api.OK}, {"-1", math.MaxInt, "-1", api.OK}, {"1/2", math.MinInt, "0", api.ErrLarge}, {"2", math.MinInt, "0", api.ErrLarge},
		{"1/2", api.MaxBits, "0", api.ErrLarge}, {"2", -api.MaxBits, "0", api.ErrLarge}, {"3/2", 41349, "0", api.ErrLarge},
	} {
		if x, e := ratio(c.x).Power(c.n); e != c.e || text(x) != c.want {
			t.Errorf("%s^%d = %s, %v", c.x, c.n, text(x), e)
		}
	}
	if x, e := ratio("1/2").Power(api.MaxBits - 1); e != api.OK || x.Denominator().Length() != api.MaxBits {
		t.Errorf("2^-65535: %v", e)
	}
	for _, c := range []struct {
		x, want string
		e       api.Errno
	}{{"9/4", "3/2", api.OK}, {"0", "0", api.OK}, {"1", "1", api.OK}, {"2", "0", api.ErrNone}, {"4/3", "0", api.ErrNone}, {"3/4", "0", api.ErrNone}, {"-4", "0", api.ErrArg}, {"-1/4", "0", api.ErrArg}} {
		if x, e := ratio(c.x).Root(); e != c.e || text(x) != c.want {
			t.Errorf("Root of %s = %s, %v", c.x, text(x), e)
		}
	}
}

func TestP3_1Quotients(t *testing.T) {
	for _, c := range []struct {
		x, y string
		q    [4]string
	}{
		{"-7/2", "2", [4]string{"-2", "-1", "-1", "-2"}}, {"5", "2", [4]string{"2", "3", "2", "2"}}, {"7", "2", [4]string{"3", "4", "3", "4"}}, {"-5", "2", [4]string{"-3", "-2", "-2", "-2"}}, {"5", "-2", [4]string{"-3", "-2", "-2", "-2"}}, {"-7", "-2", [4]string{"3", "4", "3", "4"}},
		{"6", "3", [4]string{"2", "2", "2", "2"}}, {"0", "-3", [4]string{"0", "0", "0", "0"}}, {"1/3", "1/2", [4]string{"0", "1", "0", "1"}}, {"-1/3", "1/2", [4]string{"-1", "0", "0", "-1"}}, {"1/4", "1/2", [4]string{"0", "1", "0", "0"}}, {"-1/4", "1/2", [4]string{"-1", "0", "0", "0"}}, {"3/4", "1/2", [4]string{"1", "2", "1", "2"}},
	} {
		for way, want := range c.q {
			q, rest, e := ratio(c.x).Quotient(way, ratio(c.y))
			if e != api.OK || decimal(q) != want || text(rest) != text(ratio(c.x).Sub(ratio(c.y).Mul(Of(q)))) {
				t.Errorf("%s by %s, way %d: %s, %s, %v", c.x, c.y, way, decimal(q), text(rest), e)
			}
		}
	}
	for _, way := range []int{-1, 4, math.MaxInt, math.MinInt} {
		if q, rest, e := ratio("5").Quotient(way, ratio("0")); e != api.ErrArg || q.Sign() != 0 || rest.Sign() != 0 {
			t.Errorf("way %d: %v", way, e)
		}
	}
	for way := range 4 {
		if q, rest, e := ratio("5").Quotient(way, ratio("0")); e != api.ErrZero || q.Sign() != 0 || rest.Sign() != 0 {
			t.Errorf("by 0: %v", e)
		}
	}
}

func list(l []integer.Int) string {
	s := ""
	for _, x := range l {
		s += " " + decimal(x)
	}
	return s
}

func TestP3_1Expansions(t *testing.T) {
	for x, want := range map[string]string{"43/30": " 1 2 3 4", "-3/2": " -2 2", "0": " 0", "5": " 5", "-5": " -5", "1/3": " 0 3", "-1/3": " -1 1 2"} {
		if got := list(ratio(x).Expansion()); got != want {
			t.Errorf("Expansion of %s:%s", x, got)
		}
	}
	for _, c := range []struct {
		l    []int64
		want string
		e    api.Errno
	}{
		{nil, "0", api.ErrNone}, {[]int64{0}, "0", api.OK}, {[]int64{1, 0}, "0", api.ErrZero}, {[]int64{0, 2}, "1/2", api.OK}, {[]int64{1, 0, 2}, "3", api.OK}, {[]int64{3, -2}, "5/2", api.OK}, {[]int64{-1, -2, -3}, "-10/7", api.OK}, {[]int64{5, 1, -1}, "0", api.ErrZero}, {[]int64{1, 2, 3, 4}, "43/30", api.OK}, {[]int64{7, 0, 1, -1}, "0", api.ErrZero}, {[]int64{0, 0, 0, 0, 4}, "4", api.OK},
	} {
		var l []integer.Int
		for _, n := range c.l {
			l = append(l, whole(n))
		}
		if x, e := Contract(l); e != c.e || text(x) != c.want {
			t.Errorf("Contract of %v = %s, %v", c.l, text(x), e)
		}
	}
}

// slowSimplest tries one denominator after the other, and all numerators that lie in the range.
func slowSimplest(low, high Ratio) Ratio {
	for d := int64(1); ; d++ {
		first, _, _ := low.Mul(Of(whole(d))).Quotient(Ceiling, Of(whole(1)))
		last, _, _ := high.Mul(Of(whole(d))).Quotient(Floor, Of(whole(1)))
		best := first
		for n := first; n.Cmp(last) <= 0; n = n.Add(whole(1)) {
			if n.Abs().Cmp(best.Abs()) < 0 {
				best = n
			}
		}
		if first.Cmp(last) <= 0 {
			out, _ := New(best, whole(d))
			return out
		}
	}
}

func TestP3_1Simplest(t *testing.T) {
	for _, c := range []struct{ low, high, want string }{{"31/100", "32/100", "5/16"}, {"-1/2", "1/3", "0"}, {"1/2", "5/2", "1"}, {"0", "5", "0"}, {"-5", "0", "0"}, {"2", "7", "2"}, {"-7", "-2", "-2"}, {"3/2", "3/2", "3/2"}, {"5/2", "3", "3"}, {"314159/100000", "314160/100000", "355/113"}, {"-314160/100000", "-314159/100000", "-355/113"}, {"7/3", "12/5", "7/3"}, {"9/4", "7/3", "7/3"}} {
		if x, e := Simplest(ratio(c.low), ratio(c.high)); e != api.OK || text(x) != c.want {
			t.Errorf("Simplest of %s and %s = %s, %v", c.low, c.high, text(x), e)
		}
	}
	if x, e := Simplest(ratio("1/2"), ratio("1/3")); e != api.ErrOrder || x.Sign() != 0 {
		t.Errorf("Simplest of 1/2 and 1/3: %v", e)
	}
	r := rand.New(rand.NewPCG(3, 14))
	for range 2000 {
		a, _ := New(whole(r.Int64N(81)-40), whole(1+r.Int64N(40)))
		b, _ := New(whole(r.Int64N(81)-40), whole(1+r.Int64N(40)))
		if a.Cmp(b) > 0 {
			a, b = b, a
		}
		if x, e := Simplest(a, b); e != api.OK || x.Cmp(slowSimplest(a, b)) != 0 {
			t.Fatalf("Simplest of %s and %s = %s, %v; want %s", text(a), text(b), text(x), e, text(slowSimplest(a, b)))
		}
	}
}

func TestP3_1Texts(t *testing.T) {
	for _, c := range []struct {
		s     string
		radix int
		want  string
		e     api.Errno
	}{
		{"+06/4", 10, "3/2", api.OK}, {"-0/7", 10, "0", api.OK}, {"ff/A", 16, "51/2", api.OK}, {"5", 10, "5", api.OK}, {"-4/2", 10, "-2", api.OK}, {"1/01", 10, "1", api.OK},
		{"1/-2", 10, "0", api.ErrForm}, {"1/+2", 10, "0", api.ErrForm}, {"/2", 10, "0", api.ErrForm}, {"1/", 10, "0", api.ErrForm}, {"-/2", 10, "0", api.ErrForm}, {"1/2/3", 10, "0", api.ErrForm}, {"", 10, "0", api.ErrForm}, {"/", 10, "0", api.ErrForm}, {"1/0x", 10, "0", api.ErrForm}, {"x/0", 10, "0", api.ErrForm}, {"1 /2", 10, "0", api.ErrForm},
		{"1/0", 10, "0", api.ErrZero}, {"1/000", 10, "0", api.ErrZero}, {"1/0", 1, "0", api.ErrArg}, {"1/2", 37, "0", api.ErrArg},
		{strings.Repeat("/", api.MaxDigits+1), 10, "0", api.ErrLarge}, {strings.Repeat("/", api.MaxDigits+1), 0, "0", api.ErrArg}, {strings.Repeat("0", api.MaxDigits-2) + "/9", 10, "0", api.OK}, {strings.Repeat("0", api.MaxDigits-1) + "/9", 10, "0", api.ErrLarge},
	} {
		if x, e := Parse(c.s, c.radix); e != c.e || text(x) != c.want {
			t.Errorf("Parse(%.20q, %d) = %s, %v", c.s, c.radix, text(x), e)
		}
	}
	if s, e := ratio("-255/16").Text(16); e != api.OK || s != "-FF/10" {
		t.Errorf("Text(16) = %q, %v", s, e)
	}
	for _, radix := range []int{1, 37} {
		if s, e := ratio("1/2").Text(radix); e != api.ErrArg || s != "" {
			t.Errorf("Text(%d) = %q, %v", radix, s, e)
		}
	}
}

func TestP3_2Field(t *testing.T) {
	r := rand.New(rand.NewPCG(3, 2))
	l := samples(r, 60)
	for range 2000 {
		x, y, z := l[r.IntN(60)], l[r.IntN(60)], l[r.IntN(60)]
		same := func(what string, a, b Ratio) {
			if a.Cmp(b) != 0 || decimal(a.Numerator()) != decimal(b.Numerator()) || decimal(a.Denominator()) != decimal(b.Denominator()) || text(a) != text(b) {
				t.Fatalf("%s: %s, %s, %s", what, text(x), text(y), text(z))
			}
		}
		same("Add is not commutative", x.Add(y), y.Add(x))
		same("Mul is not commutative", x.Mul(y), y.Mul(x))
		same("Add is not associative", x.Add(y).Add(z), x.Add(y.Add(z)))
		same("Mul is not associative", x.Mul(y).Mul(z), x.Mul(y.Mul(z)))
		same("Mul is not distributive", x.Mul(y.Add(z)), x.Mul(y).Add(x.Mul(z)))
		same("Sub does not undo Add", x.Add(y).Sub(y), x)
		if q, e := x.Mul(y).Div(y); e == api.OK {
			same("Div does not undo Mul", q, x)
		}
		if x.Cmp(y) != x.Add(z).Cmp(y.Add(z)) || z.Sign() > 0 && x.Cmp(y) != x.Mul(z).Cmp(y.Mul(z)) {
			t.Fatalf("Cmp: %s, %s, %s", text(x), text(y), text(z))
		}
	}
}

func TestP3_3Quotients(t *testing.T) {
	r := rand.New(rand.NewPCG(3, 3))
	l := samples(r, 60)
	for range 2000 {
		x, y := l[r.IntN(60)], l[r.IntN(60)]
		if y.Sign() == 0 {
			continue
		}
		var rest [4]Ratio
		for way := range 4 {
			q, m, e := x.Quotient(way, y)
			if e != api.OK || y.Mul(Of(q)).Add(m).Cmp(x) != 0 {
				t.Fatalf("%s by %s, way %d", text(x), text(y), way)
			}
			rest[way] = m
		}
		for way, sign := range [3]int{y.Sign(), -y.Sign(), x.Sign()} {
			if s := rest[way].Sign(); s != 0 && s != sign || rest[way].Abs().Cmp(y.Abs()) >= 0 {
				t.Fatalf("%s by %s, way %d: the rest is %s", text(x), text(y), way, text(rest[way]))
			}
		}
		if m := rest[Round].Abs(); m.Add(m).Cmp(y.Abs()) > 0 {
			t.Fatalf("%s by %s: the rest is %s", text(x), text(y), text(rest[Round]))
		}
		up, _, _ := x.Quotient(Ceiling, Of(whole(1)))
		down, _, _ := x.Neg().Quotient(Floor, Of(whole(1)))
		if up.Cmp(down.Neg()) != 0 {
			t.Fatalf("Ceiling of %s is %s", text(x), decimal(up))
		}
	}
}

func TestP3_4Powers(t *testing.T) {
	r := rand.New(rand.NewPCG(3, 4))
	for _, x := range samples(r, 100) {
		if s, e := x.Mul(x).Root(); e != api.OK || s.Cmp(x.Abs()) != 0 {
			t.Fatalf("Root of the square of %s: %v", text(x), e)
		}
		if x.Sign() == 0 {
			continue
		}
		m, n := r.IntN(20)-10, r.IntN(20)-10
		a, _ := x.Power(m)
		b, _ := x.Power(n)
		if c, e := x.Power(m + n); e != api.OK || c.Cmp(a.Mul(b)) != 0 {
			t.Fatalf("%s to the power of %d + %d: %v", text(x), m, n, e)
		}
	}
}

func TestP3_5Expansions(t *testing.T) {
	r := rand.New(rand.NewPCG(3, 5))
	for _, x := range samples(r, 200) {
		l := x.Expansion()
		if y, e := Contract(l); e != api.OK || y.Cmp(x) != 0 {
			t.Fatalf("Contract of the Expansion of %s: %s, %v", text(x), text(y), e)
		}
		for i, a := range l[1:] {
			if a.Sign() <= 0 || i == len(l)-2 && a.Cmp(whole(1)) <= 0 {
				t.Fatalf("Expansion of %s:%s", text(x), list(l))
			}
		}
	}
}

// simpler reports whether x is simpler than y.
func simpler(x, y Ratio) bool {
	if c := x.Denominator().Cmp(y.Denominator()); c != 0 {
		return c < 0
	}
	return x.Numerator().Abs().Cmp(y.Numerator().Abs()) < 0
}

func TestP3_6Simplest(t *testing.T) {
	r := rand.New(rand.NewPCG(3, 6))
	l := samples(r, 80)
	for range 2000 {
		low, high := l[r.IntN(80)], l[r.IntN(80)]
		if low.Cmp(high) > 0 {
			low, high = high, low
		}
		x, e := Simplest(low, high)
		if e != api.OK || x.Cmp(low) < 0 || x.Cmp(high) > 0 {
			t.Fatalf("Simplest of %s and %s: %s, %v", text(low), text(high), text(x), e)
		}
		for _, y := range l {
			if y.Cmp(low) >= 0 && y.Cmp(high) <= 0 && simpler(y, x) {
				t.Fatalf("Simplest of %s and %s: %s, not %s", text(low), text(high), text(x), text(y))
			}
		}
		wider, _ := Simplest(low.Sub(l[r.IntN(80)].Abs()), high.Add(l[r.IntN(80)].Abs()))
		if simpler(x, wider) {
			t.Fatalf("%s is simpler than %s of a wider range", text(x), text(wider))
		}
	}
}

func TestP3_7Texts(t *testing.T) {
	r := rand.New(rand.NewPCG(3, 7))
	for _, x := range samples(r, 300) {
		radix := 2 + r.IntN(35)
		s, _ := x.Text(radix)
		if y, e := Parse(s, radix); e != api.OK || y.Cmp(x) != 0 {
			t.Fatalf("Parse(%q, %d) = %s, %v", s, radix, text(y), e)
		}
		if x.Whole() != !strings.Contains(s, "/") {
			t.Fatalf("Text of %s: %s", text(x), s)
		}
	}
}
