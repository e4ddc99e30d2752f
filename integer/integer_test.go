package integer

import (
	"math"
	"math/big"
	"math/rand/v2"
	"slices"
	"strings"
	"testing"

	"commonform/api"
)

// toBig returns x as a number of the library, which the tests hold against it.
func toBig(x Int) *big.Int {
	negative, limbs := x.Limbs()
	out := new(big.Int)
	for i := len(limbs) - 1; i >= 0; i-- {
		out.Lsh(out, 32).Or(out, big.NewInt(int64(limbs[i])))
	}
	if negative {
		out.Neg(out)
	}
	return out
}

func fromBig(b *big.Int) Int {
	var limbs []uint32
	mask := big.NewInt(math.MaxUint32)
	for rest := new(big.Int).Abs(b); rest.Sign() > 0; rest.Rsh(rest, 32) {
		limbs = append(limbs, uint32(new(big.Int).And(rest, mask).Uint64()))
	}
	return Make(b.Sign() < 0, limbs)
}

func parse(s string) Int {
	x, e := Parse(s, 10)
	if e != api.OK {
		panic(s)
	}
	return x
}

func text(x Int) string {
	s, _ := x.Text(10)
	return s
}

// samples returns numbers of all sizes, and those at the borders of limbs.
func samples(r *rand.Rand, count, maxLimbs int) []Int {
	var out []Int
	for _, s := range []string{"0", "1", "2", "3", "7", "4294967295", "4294967296", "4294967297", "9223372036854775807", "9223372036854775808", "18446744073709551615", "18446744073709551616", "340282366920938463463374607431768211456", "340282366920938463463374607431768211455"} {
		out = append(out, parse(s), parse("-"+s))
	}
	for len(out) < count {
		limbs := make([]uint32, r.IntN(maxLimbs+1))
		for i := range limbs {
			switch r.IntN(4) {
			case 0:
				limbs[i] = math.MaxUint32
			case 1:
				limbs[i] = r.Uint32()
			case 2:
				limbs[i] = 1 << r.IntN(32)
			}
		}
		out = append(out, Make(r.IntN(2) == 0, limbs))
	}
	return out
}

func expect(t *testing.T, what string, got Int, want *big.Int) {
	t.Helper()
	if toBig(got).Cmp(want) != 0 {
		t.Fatalf("%s = %s; want %s", what, text(got), want)
	}
	if limbs := got.limbs; len(limbs) > 0 && limbs[len(limbs)-1] == 0 || len(limbs) == 0 && got.negative {
		t.Fatalf("%s: not in canonical form", what)
	}
}

func TestP2_1Numbers(t *testing.T) {
	for _, n := range []int64{0, 1, -1, 42, math.MaxInt32, math.MinInt32, 1 << 32, -1 << 32, math.MaxInt64, math.MinInt64} {
		x := New(n)
		if got, ok := x.Int64(); !ok || got != n || text(x) != big.NewInt(n).String() {
			t.Errorf("New(%d) = %s, %d, %v", n, text(x), got, ok)
		}
		if x.Odd() != (n&1 == 1) || x.Sign() != big.NewInt(n).Sign() {
			t.Errorf("%d: Odd %v, Sign %d", n, x.Odd(), x.Sign())
		}
	}
	for _, s := range []string{"9223372036854775808", "-9223372036854775809", "18446744073709551616", "-18446744073709551616", "99999999999999999999999"} {
		if n, ok := parse(s).Int64(); n != 0 || ok {
			t.Errorf("Int64 of %s: %d, %v", s, n, ok)
		}
	}
	limbs := []uint32{7, 0, 9, 0, 0}
	x := Make(true, limbs)
	limbs[0] = 1
	negative, out := x.Limbs()
	if !negative || !slices.Equal(out, []uint32{7, 0, 9}) {
		t.Errorf("Limbs of Make: %v, %v", negative, out)
	}
	out[0] = 5
	if _, again := x.Limbs(); again[0] != 7 {
		t.Error("Limbs shares memory")
	}
	for _, zero := range []Int{{}, New(0), Make(true, nil), Make(true, []uint32{0, 0}), New(5).Sub(New(5)), New(-5).Add(New(5)), New(0).Neg()} {
		if negative, limbs := zero.Limbs(); negative || len(limbs) != 0 || zero.Sign() != 0 || text(zero) != "0" {
			t.Errorf("0: %v, %v", negative, limbs)
		}
	}
}

func TestP2_1Arithmetic(t *testing.T) {
	r := rand.New(rand.NewPCG(2, 1))
	l := samples(r, 120, 9)
	for _, x := range l {
		a := toBig(x)
		expect(t, "Neg", x.Neg(), new(big.Int).Neg(a))
		expect(t, "Abs", x.Abs(), new(big.Int).Abs(a))
		for _, y := range l {
			b := toBig(y)
			expect(t, "Add", x.Add(y), new(big.Int).Add(a, b))
			expect(t, "Sub", x.Sub(y), new(big.Int).Sub(a, b))
			expect(t, "Mul", x.Mul(y), new(big.Int).Mul(a, b))
			if x.Cmp(y) != a.Cmp(b) {
				t.Fatalf("Cmp of %s and %s: %d", a, b, x.Cmp(y))
			}
			expect(t, "Gcd of "+a.String()+" and "+b.String(), x.Gcd(y), new(big.Int).GCD(nil, nil, new(big.Int).Abs(a), new(big.Int).Abs(b)))
			q, rest, e := x.Divide(y)
			if y.Sign() == 0 {
				if e != api.ErrZero || q.Sign() != 0 || rest.Sign() != 0 {
					t.Fatalf("%s/0: %v", a, e)
				}
				continue
			}
			wantQ, wantR := new(big.Int).QuoRem(a, b, new(big.Int))
			expect(t, "quotient", q, wantQ)
			expect(t, "remainder", rest, wantR)
			if e != api.OK {
				t.Fatalf("Divide: %v", e)
			}
		}
	}
}

// Numbers for which a digit of the quotient is guessed too great, and long common divisors.
func TestP2_1LongArithmetic(t *testing.T) {
	r := rand.New(rand.NewPCG(2, 11))
	for range 300 {
		l := samples(r, 31, 80)
		x, y, z := l[28], l[29], l[30]
		a, b, c := toBig(x), toBig(y), toBig(z)
		expect(t, "Gcd", x.Mul(z).Gcd(y.Mul(z)), new(big.Int).GCD(nil, nil, new(big.Int).Abs(new(big.Int).Mul(a, c)), new(big.Int).Abs(new(big.Int).Mul(b, c))))
		if y.Sign() == 0 {
			continue
		}
		product := x.Mul(y)
		for _, n := range []Int{product, product.Add(New(1)), product.Sub(New(1)), product.Add(y).Sub(New(1))} {
			q, rest, _ := n.Divide(y)
			wantQ, wantR := new(big.Int).QuoRem(toBig(n), b, new(big.Int))
			expect(t, "quotient", q, wantQ)
			expect(t, "remainder", rest, wantR)
		}
	}
	// Neighbours of the sequence of Fibonacci need the most steps.
	x, y := New(1), New(1)
	for range 2000 {
		x, y = x.Add(y), x
		if g := x.Gcd(y); text(g) != "1" {
			t.Fatalf("Gcd of neighbours: %s", text(g))
		}
	}
}

func TestP2_1Powers(t *testing.T) {
	for _, c := range []struct {
		x    string
		n    int
		want string
		e    api.Errno
	}{
		{"0", 0, "1", api.OK}, {"7", 0, "1", api.OK}, {"0", 5, "0", api.OK}, {"1", math.MaxInt, "1", api.OK}, {"-1", math.MaxInt, "-1", api.OK}, {"-1", math.MaxInt - 1, "1", api.OK},
		{"-3", 5, "-243", api.OK}, {"10", 20, "100000000000000000000", api.OK}, {"2", -1, "0", api.ErrArg}, {"1", math.MinInt, "0", api.ErrArg},
		{"2", api.MaxBits, "0", api.ErrLarge}, {"2", math.MaxInt, "0", api.ErrLarge}, {"-2", api.MaxBits, "0", api.ErrLarge}, {"-2", api.MaxBits + 1, "0", api.ErrLarge}, {"3", 50000, "0", api.ErrLarge}, {"4", api.MaxBits / 2, "0", api.ErrLarge},
	} {
		if x, e := parse(c.x).Power(c.n); e != c.e || text(x) != c.want {
			t.Errorf("%s^%d = %s, %v; want %s, %v", c.x, c.n, text(x), e, c.want, c.e)
		}
	}
	// Right at the limit: -2^65536 has the Length 65536, 2^65536 has not.
	one, _ := New(1).Shift(api.MaxBits - 1)
	top := one.Add(one)
	if x, e := top.Neg().Power(1); e != api.OK || x.Cmp(top.Neg()) != 0 {
		t.Errorf("-2^65536 to the power of 1: %v", e)
	}
	if _, e := top.Power(1); e != api.ErrLarge {
		t.Errorf("2^65536 to the power of 1: %v", e)
	}
	if x, e := New(3).Power(41348); e != api.OK || x.Length() != 65536 {
		t.Errorf("3^41348: %d, %v", x.Length(), e)
	}
	if _, e := New(3).Power(41349); e != api.ErrLarge {
		t.Errorf("3^41349: %v", e)
	}
	for _, n := range []int64{0, 1, 2, 3, 4, 8, 9, 15, 16, 17, 1 << 62, math.MaxInt64} {
		want := new(big.Int).Sqrt(big.NewInt(n))
		if x, e := New(n).Root(); e != api.OK || toBig(x).Cmp(want) != 0 {
			t.Errorf("Root of %d = %s, %v", n, text(x), e)
		}
	}
	if x, e := New(-1).Root(); e != api.ErrArg || x.Sign() != 0 {
		t.Errorf("Root of -1: %v", e)
	}
}

func TestP2_1Bits(t *testing.T) {
	r := rand.New(rand.NewPCG(2, 12))
	for _, x := range samples(r, 100, 6) {
		a := toBig(x)
		pattern := new(big.Int).Set(a)
		if a.Sign() < 0 {
			pattern.Not(a)
		}
		count := strings.Count(pattern.Text(2), "1")
		if x.Length() != pattern.BitLen() || x.Count() != count {
			t.Fatalf("%s: Length %d, Count %d", a, x.Length(), x.Count())
		}
		for _, i := range []int{0, 1, 31, 32, 33, 63, 64, 100, 1000, math.MaxInt} {
			want := a.Sign() < 0
			if i < 1000 {
				want = a.Bit(i) == 1
			}
			if x.Bit(i) != want || x.Bit(-1-i) {
				t.Fatalf("%s: Bit %d is %v", a, i, x.Bit(i))
			}
		}
		for _, n := range []int{0, 1, 5, 31, 32, 33, 64, 100, 1000} {
			up, e := x.Shift(n)
			if e != api.OK {
				t.Fatalf("Shift: %v", e)
			}
			expect(t, "Shift up", up, new(big.Int).Lsh(a, uint(n)))
			down, e := x.Shift(-n)
			if e != api.OK {
				t.Fatalf("Shift: %v", e)
			}
			expect(t, "Shift down", down, new(big.Int).Rsh(a, uint(n)))
		}
	}
	for _, c := range []struct {
		x    int64
		n    int
		want string
		e    api.Errno
	}{
		{0, math.MaxInt, "0", api.OK}, {1, api.MaxBits, "0", api.ErrLarge}, {-1, api.MaxBits + 1, "0", api.ErrLarge}, {1, math.MaxInt, "0", api.ErrLarge},
		{5, math.MinInt, "0", api.OK}, {-5, math.MinInt, "-1", api.OK}, {-5, -1, "-3", api.OK}, {-1, -64, "-1", api.OK}, {-4294967296, -32, "-1", api.OK}, {-4294967297, -32, "-2", api.OK},
	} {
		if x, e := New(c.x).Shift(c.n); e != c.e || text(x) != c.want {
			t.Errorf("%d shifted by %d = %s, %v", c.x, c.n, text(x), e)
		}
	}
	if x, e := New(-1).Shift(api.MaxBits); e != api.OK || x.Length() != api.MaxBits {
		t.Errorf("-2^65536: %v", e)
	}
	long := Make(false, make([]uint32, 3000)).Add(Make(false, append(make([]uint32, 3000), 1)))
	if x, e := long.Shift(0); e != api.OK || x.Cmp(long) != 0 {
		t.Errorf("Shift by 0 of a long number: %v", e)
	}
	if x, e := long.Shift(-1); e != api.OK || x.Length() != long.Length()-1 {
		t.Errorf("Shift by -1 of a long number: %v", e)
	}
}

func TestP2_1Fields(t *testing.T) {
	for _, c := range []struct{ size, position int }{{-1, 0}, {0, -1}, {api.MaxBits + 1, 0}, {0, api.MaxBits + 1}, {math.MinInt, math.MaxInt}} {
		if x, e := New(5).Field(c.size, c.position); e != api.ErrArg || x.Sign() != 0 {
			t.Errorf("Field(%d, %d): %v", c.size, c.position, e)
		}
		if x, e := New(5).Deposit(New(1), c.size, c.position); e != api.ErrArg || x.Sign() != 0 {
			t.Errorf("Deposit(%d, %d): %v", c.size, c.position, e)
		}
	}
	if x, e := New(-1).Field(api.MaxBits, api.MaxBits); e != api.OK || x.Count() != api.MaxBits {
		t.Errorf("the greatest field: %d, %v", x.Count(), e)
	}
	if x, e := New(0).Deposit(New(-1), api.MaxBits, api.MaxBits); e != api.OK || x.Length() != 2*api.MaxBits || x.Count() != api.MaxBits {
		t.Errorf("the greatest deposit: %d, %v", x.Length(), e)
	}
	if x, e := New(90).Field(0, 2); e != api.OK || x.Sign() != 0 {
		t.Errorf("an empty field: %s, %v", text(x), e)
	}
	if x, e := New(-90).Deposit(New(77), 0, 2); e != api.OK || text(x) != "-90" {
		t.Errorf("an empty deposit: %s, %v", text(x), e)
	}
	if x, e := New(-1).Deposit(New(0), 3, 2); e != api.OK || text(x) != "-29" {
		t.Errorf("Deposit in -1: %s, %v", text(x), e)
	}
}

func TestP2_1Boole(t *testing.T) {
	for op := range 16 {
		for _, x := range []int64{0, 1, -1, 12, -12, math.MaxInt64, math.MinInt64, 1 << 31, -1 << 31} {
			for _, y := range []int64{0, 1, -1, 10, -10, math.MaxInt64, math.MinInt64, 1 << 32, -1 << 32} {
				want := int64(0)
				for i := range 64 {
					want |= int64(op>>(2*(x>>i&1)+y>>i&1)&1) << i
				}
				got, e := New(x).Boole(op, New(y))
				if n, ok := got.Int64(); e != api.OK || !ok || n != want {
					t.Fatalf("Boole %d of %d and %d = %s, %v; want %d", op, x, y, text(got), e, want)
				}
			}
		}
	}
	for _, op := range []int{-1, 16, math.MinInt, math.MaxInt} {
		if x, e := New(1).Boole(op, New(1)); e != api.ErrArg || x.Sign() != 0 {
			t.Errorf("Boole %d: %v", op, e)
		}
	}
}

func TestP2_1Digits(t *testing.T) {
	for _, c := range []struct {
		s     string
		radix int
		want  string
		e     api.Errno
	}{
		{"0", 2, "0", api.OK}, {"-0", 10, "0", api.OK}, {"+17", 8, "15", api.OK}, {"zz", 36, "1295", api.OK}, {"-FF", 16, "-255", api.OK}, {"000000000000000000000000000000000000000012", 10, "12", api.OK},
		{"", 10, "0", api.ErrForm}, {"-", 10, "0", api.ErrForm}, {"+", 10, "0", api.ErrForm}, {"+-1", 10, "0", api.ErrForm}, {"2", 2, "0", api.ErrForm}, {"g", 16, "0", api.ErrForm}, {"1 ", 10, "0", api.ErrForm}, {"1.", 10, "0", api.ErrForm}, {"é", 36, "0", api.ErrForm}, {"1_0", 10, "0", api.ErrForm}, {"@", 36, "0", api.ErrForm}, {"[", 36, "0", api.ErrForm}, {"`", 36, "0", api.ErrForm}, {"{", 36, "0", api.ErrForm}, {"/", 36, "0", api.ErrForm}, {":", 36, "0", api.ErrForm},
		{"1", 1, "0", api.ErrArg}, {"1", 37, "0", api.ErrArg}, {"x", 0, "0", api.ErrArg}, {"1", -10, "0", api.ErrArg},
		{strings.Repeat("x", api.MaxDigits+1), 10, "0", api.ErrLarge}, {strings.Repeat("x", api.MaxDigits+1), 37, "0", api.ErrArg}, {strings.Repeat("0", api.MaxDigits), 10, "0", api.OK}, {strings.Repeat("x", api.MaxDigits), 10, "0", api.ErrForm},
	} {
		x, e := Parse(c.s, c.radix)
		if e != c.e || text(x) != c.want {
			t.Errorf("Parse(%.20q, %d) = %s, %v; want %s, %v", c.s, c.radix, text(x), e, c.want, c.e)
		}
	}
	for _, radix := range []int{1, 37, 0, -2, math.MaxInt} {
		if s, e := New(5).Text(radix); e != api.ErrArg || s != "" {
			t.Errorf("Text(%d): %q, %v", radix, s, e)
		}
	}
	r := rand.New(rand.NewPCG(2, 13))
	for _, x := range samples(r, 60, 40) {
		for radix := 2; radix <= 36; radix++ {
			want := strings.ToUpper(toBig(x).Text(radix))
			if s, e := x.Text(radix); e != api.OK || s != want {
				t.Fatalf("Text(%d) = %s, %v; want %s", radix, s, e, want)
			}
		}
	}
}

func TestP2_2Ring(t *testing.T) {
	r := rand.New(rand.NewPCG(2, 2))
	l := samples(r, 60, 5)
	for range 3000 {
		x, y, z := l[r.IntN(60)], l[r.IntN(60)], l[r.IntN(60)]
		same := func(what string, a, b Int) {
			if a.Cmp(b) != 0 {
				t.Fatalf("%s: %s, %s, %s", what, text(x), text(y), text(z))
			}
		}
		same("Add is not commutative", x.Add(y), y.Add(x))
		same("Mul is not commutative", x.Mul(y), y.Mul(x))
		same("Add is not associative", x.Add(y).Add(z), x.Add(y.Add(z)))
		same("Mul is not associative", x.Mul(y).Mul(z), x.Mul(y.Mul(z)))
		same("Mul is not distributive", x.Mul(y.Add(z)), x.Mul(y).Add(x.Mul(z)))
		same("Sub does not undo Add", x.Add(y).Sub(y), x)
		if x.Cmp(y) != -y.Cmp(x) || x.Cmp(y) != x.Sub(y).Sign() || x.Cmp(y) != x.Add(z).Cmp(y.Add(z)) {
			t.Fatalf("Cmp of %s and %s", text(x), text(y))
		}
		if z.Sign() > 0 && x.Cmp(y) != x.Mul(z).Cmp(y.Mul(z)) {
			t.Fatalf("Cmp of products by %s", text(z))
		}
	}
}

func TestP2_3Division(t *testing.T) {
	r := rand.New(rand.NewPCG(2, 3))
	l := samples(r, 60, 7)
	for range 3000 {
		x, y, n := l[r.IntN(60)], l[r.IntN(60)], l[r.IntN(60)]
		if y.Sign() != 0 {
			q, rest, _ := x.Divide(y)
			if y.Mul(q).Add(rest).Cmp(x) != 0 || rest.Abs().Cmp(y.Abs()) >= 0 || rest.Sign() != 0 && rest.Sign() != x.Sign() {
				t.Fatalf("%s by %s: %s, %s", text(x), text(y), text(q), text(rest))
			}
		}
		g := x.Gcd(y)
		if g.Sign() < 0 || x.Mul(n).Gcd(y.Mul(n)).Cmp(n.Abs().Mul(g)) != 0 {
			t.Fatalf("Gcd of %s and %s: %s", text(x), text(y), text(g))
		}
		for _, d := range []Int{g, New(2), New(3), New(6)} {
			if d.Sign() == 0 {
				continue
			}
			_, a, _ := x.Divide(d)
			_, b, _ := y.Divide(d)
			_, c, _ := g.Divide(d)
			if isG := d.Cmp(g) == 0; isG && (a.Sign() != 0 || b.Sign() != 0) || a.Sign() == 0 && b.Sign() == 0 && c.Sign() != 0 {
				t.Fatalf("%s and the Gcd %s of %s and %s", text(d), text(g), text(x), text(y))
			}
		}
	}
}

func TestP2_4Powers(t *testing.T) {
	r := rand.New(rand.NewPCG(2, 4))
	for _, x := range samples(r, 60, 5) {
		m, n := r.IntN(12), r.IntN(12)
		a, _ := x.Power(m)
		b, _ := x.Power(n)
		if c, e := x.Power(m + n); e != api.OK || c.Cmp(a.Mul(b)) != 0 {
			t.Fatalf("%s to the power of %d + %d: %v", text(x), m, n, e)
		}
		if s, e := x.Mul(x).Root(); e != api.OK || s.Cmp(x.Abs()) != 0 {
			t.Fatalf("Root of the square of %s: %s", text(x), text(s))
		}
		s, _ := x.Abs().Root()
		next := s.Add(New(1))
		if s.Mul(s).Cmp(x.Abs()) > 0 || next.Mul(next).Cmp(x.Abs()) <= 0 {
			t.Fatalf("Root of %s: %s", text(x.Abs()), text(s))
		}
	}
}

func TestP2_5Bits(t *testing.T) {
	r := rand.New(rand.NewPCG(2, 5))
	l := samples(r, 60, 6)
	for range 1000 {
		x, y := l[r.IntN(60)], l[r.IntN(60)]
		op := r.IntN(16)
		z, _ := x.Boole(op, y)
		for i := range 210 {
			a, b := 0, 0
			if x.Bit(i) {
				a = 1
			}
			if y.Bit(i) {
				b = 1
			}
			if z.Bit(i) != (op>>(2*a+b)&1 == 1) {
				t.Fatalf("Boole %d of %s and %s, bit %d", op, text(x), text(y), i)
			}
		}
		either, _ := x.Boole(6, y)
		both, _ := x.Boole(8, y)
		if either.Add(both).Add(both).Cmp(x.Add(y)) != 0 {
			t.Fatalf("the sum of %s and %s from its bits", text(x), text(y))
		}
		size, position := r.IntN(100), r.IntN(150)
		d, _ := x.Deposit(y, size, position)
		f, _ := d.Field(size, position)
		want, _ := y.Field(size, 0)
		if f.Cmp(want) != 0 {
			t.Fatalf("Field of Deposit: %s", text(f))
		}
		for i := range 260 {
			if (i < position || i >= position+size) && d.Bit(i) != x.Bit(i) {
				t.Fatalf("Deposit changes bit %d", i)
			}
		}
		own, _ := x.Field(size, position)
		if back, _ := x.Deposit(own, size, position); back.Cmp(x) != 0 {
			t.Fatalf("Deposit of a Field: %s", text(back))
		}
		other := New(-1).Sub(x)
		if other.Length() != x.Length() || other.Count() != x.Count() {
			t.Fatalf("-1 - %s", text(x))
		}
		n := r.IntN(200)
		up, _ := x.Shift(n)
		if back, _ := up.Shift(-n); back.Cmp(x) != 0 {
			t.Fatalf("Shift there and back of %s", text(x))
		}
	}
}

func TestP2_6Digits(t *testing.T) {
	r := rand.New(rand.NewPCG(2, 6))
	for _, x := range samples(r, 80, 30) {
		radix := 2 + r.IntN(35)
		s, _ := x.Text(radix)
		for _, variant := range []string{s, strings.ToLower(s), strings.Replace("+"+s, "+-", "-", 1), strings.Replace("000"+s, "000-", "-00", 1)} {
			back, e := Parse(variant, radix)
			again, _ := back.Text(radix)
			if e != api.OK || back.Cmp(x) != 0 || again != s {
				t.Fatalf("Parse(%q, %d) = %s, %v", variant, radix, text(back), e)
			}
		}
		hex, _ := x.Abs().Text(16)
		_, limbs := x.Limbs()
		fromLimbs := ""
		for _, w := range limbs {
			fromLimbs = strings.ToUpper(big.NewInt(int64(w) + 1<<32).Text(16))[1:] + fromLimbs
		}
		if want := strings.TrimLeft(fromLimbs, "0"); hex != want && !(want == "" && hex == "0") {
			t.Fatalf("Text(16) = %s; the limbs are %s", hex, fromLimbs)
		}
	}
}

func TestExamples(t *testing.T) {
	q, rest, _ := New(-7).Divide(New(2))
	root, _ := New(17).Root()
	shifted, _ := New(-5).Shift(-1)
	and, _ := New(-4).Boole(8, New(7))
	or, _ := New(-4).Boole(14, New(7))
	not, _ := New(-4).Boole(3, New(7))
	field, _ := New(90).Field(3, 2)
	deposit, _ := New(90).Deposit(New(1), 3, 2)
	for i, x := range []Int{q, rest, New(-12).Gcd(New(18)), root, shifted, and, or, not, field, deposit} {
		if want := []int64{-3, -1, 6, 4, -3, 4, -1, 3, 6, 70}[i]; x.Cmp(New(want)) != 0 {
			t.Errorf("example %d: %s; want %d", i, text(x), want)
		}
	}
}

// A value of the type stays what it is, whatever is made of it.
func TestValuesStay(t *testing.T) {
	r := rand.New(rand.NewPCG(2, 7))
	l := samples(r, 40, 5)
	var before []string
	for _, x := range l {
		before = append(before, text(x))
	}
	for _, x := range l {
		for _, y := range l {
			x.Add(y).Neg().Abs()
			x.Mul(y).Divide(x)
			x.Boole(6, y)
			x.Deposit(y, 40, 20)
			x.Gcd(y)
			x.Abs().Root()
			x.Power(3)
			x.Shift(-7)
			x.Text(7)
		}
	}
	for i, x := range l {
		if text(x) != before[i] {
			t.Errorf("%s became %s", before[i], text(x))
		}
	}
	if fromBig(toBig(l[30])).Cmp(l[30]) != 0 {
		t.Error("there and back")
	}
}
