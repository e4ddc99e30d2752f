package number

import (
	"fmt"
	"math"
	"math/big"
	"math/rand/v2"
	"strconv"
	"strings"
	"testing"

	"commonform/api"
)

// brief shows the beginning of a value.
func brief(x any) string { return fmt.Sprintf("%.90s", fmt.Sprint(x)) }

// num returns the number of a token, or of "a b", which stands for a complex number.
func num(s string) api.Form {
	if re, im, isComplex := strings.Cut(s, " "); isComplex {
		x, e := Complex(num(re), num(im))
		if e != api.OK {
			panic(s)
		}
		return x
	}
	x, e := Read(s, 10, false)
	if e != api.OK {
		panic(s)
	}
	return x
}

func nums(l ...string) []api.Form {
	var out []api.Form
	for _, s := range l {
		out = append(out, num(s))
	}
	return out
}

// shown returns the text of a number, or ! and its error.
func shown(x api.Form, e api.Errno) string {
	if e != api.OK {
		if x.Kind != 0 || x.Text != "" || x.Home != "" || len(x.Kids) != 0 {
			return "a result with an error"
		}
		return "!" + e.Error()
	}
	if c := Check(x); c != api.OK {
		return "a result that is no number: " + c.Error()
	}
	s, e := Print(x, 10, false, false)
	if e != api.OK {
		return "!!" + e.Error()
	}
	return strings.TrimSuffix(strings.TrimPrefix(s, "#C("), ")")
}

func whole(s string) api.Form { return api.Form{Kind: api.FormInt, Text: s} }

func ofBits(s string) api.Form {
	if len(s) == 8 {
		return api.Form{Kind: api.FormSingle, Text: s}
	}
	return api.Form{Kind: api.FormDouble, Text: s}
}

func parts(l ...api.Form) api.Form { return api.Form{Kind: api.FormComplex, Kids: l} }

const (
	errArg   = "!1"
	errForm  = "!2"
	errNone  = "!5"
	errZero  = "!6"
	errType  = "!13"
	errLarge = "!14"
	errOver  = "!15"
)

// huge is an integer beyond all floats.
var huge = "1" + strings.Repeat("0", 400)

type wrong struct {
	x api.Form
	e api.Errno
}

func wrongs() []wrong {
	one := whole("1")
	long := whole(strings.Repeat("1", api.MaxDigits+1))
	return []wrong{
		{api.Form{}, api.ErrType}, {api.Form{Kind: api.FormString, Text: "1"}, api.ErrType}, {api.Form{Kind: api.FormSymbol, Text: "A"}, api.ErrType}, {api.Form{Kind: -1}, api.ErrType}, {api.Form{Kind: 7, Text: long.Text}, api.ErrType},
		{long, api.ErrLarge}, {api.Form{Kind: api.FormSingle, Text: long.Text}, api.ErrLarge}, {parts(one, long), api.ErrLarge}, {parts(long), api.ErrLarge}, {parts(api.Form{Kind: api.FormChar}, long, one), api.ErrLarge}, {api.Form{Kind: api.FormInt, Text: strings.Repeat("x", api.MaxDigits+1)}, api.ErrLarge},
		{whole(""), api.ErrForm}, {whole("01"), api.ErrForm}, {whole("+1"), api.ErrForm}, {whole("-0"), api.ErrForm}, {whole("1."), api.ErrForm}, {whole("1/2"), api.ErrForm}, {whole("ff"), api.ErrForm}, {whole("-"), api.ErrForm}, {whole("4/2"), api.ErrForm},
		{api.Form{Kind: api.FormInt, Text: "1", Home: "X"}, api.ErrForm}, {api.Form{Kind: api.FormInt, Text: "1", Kids: []api.Form{one}}, api.ErrForm}, {api.Form{Kind: api.FormSingle, Text: "3f800000", Home: "X"}, api.ErrForm},
		{api.Form{Kind: api.FormRatio, Text: "1"}, api.ErrForm}, {api.Form{Kind: api.FormRatio, Text: "2/4"}, api.ErrForm}, {api.Form{Kind: api.FormRatio, Text: "4/2"}, api.ErrForm}, {api.Form{Kind: api.FormRatio, Text: "1/0"}, api.ErrForm}, {api.Form{Kind: api.FormRatio, Text: "0/1"}, api.ErrForm}, {api.Form{Kind: api.FormRatio, Text: "1/-2"}, api.ErrForm}, {api.Form{Kind: api.FormRatio, Text: "01/2"}, api.ErrForm}, {api.Form{Kind: api.FormRatio, Text: "+1/2"}, api.ErrForm}, {api.Form{Kind: api.FormRatio, Text: "3/1"}, api.ErrForm}, {api.Form{Kind: api.FormRatio, Text: "1/02"}, api.ErrForm}, {api.Form{Kind: api.FormRatio}, api.ErrForm},
		{ofBits("3F800000"), api.ErrForm}, {ofBits("7f800000"), api.ErrForm}, {ofBits("ffc00000"), api.ErrForm}, {ofBits("3f80000g"), api.ErrForm}, {ofBits("7ff0000000000000"), api.ErrForm}, {ofBits("fff8000000000000"), api.ErrForm}, {ofBits("3f80000"), api.ErrForm}, {ofBits(""), api.ErrForm}, {api.Form{Kind: api.FormSingle, Text: "3ff0000000000000"}, api.ErrForm}, {api.Form{Kind: api.FormSingle, Text: "+3f80000"}, api.ErrForm},
		{parts(), api.ErrForm}, {parts(one), api.ErrForm}, {parts(one, one, one), api.ErrForm}, {parts(one, whole("0")), api.ErrForm}, {parts(one, ofBits("3f800000")), api.ErrForm}, {parts(ofBits("3f800000"), one), api.ErrForm}, {parts(ofBits("3f800000"), ofBits("3ff0000000000000")), api.ErrForm}, {parts(one, parts(one, one)), api.ErrForm}, {parts(one, api.Form{Kind: api.FormChar, Text: "1"}), api.ErrForm}, {parts(ofBits("7f800000"), ofBits("00000000")), api.ErrForm}, {parts(one, whole("01")), api.ErrForm},
		{api.Form{Kind: api.FormComplex, Text: "x", Kids: []api.Form{one, one}}, api.ErrForm}, {api.Form{Kind: api.FormComplex, Home: "x", Kids: []api.Form{one, one}}, api.ErrForm},
	}
}

func TestP5_1Check(t *testing.T) {
	for _, x := range []api.Form{whole("0"), whole("-1"), whole("123456789012345678901234567890"), num("-2/3"), ofBits("80000000"), ofBits("00000001"), ofBits("7fefffffffffffff"), num("0 1"), num("1/2 -3"), parts(ofBits("00000000"), ofBits("00000000")), num("1d0 0"), whole(strings.Repeat("9", api.MaxDigits))} {
		if e := Check(x); e != api.OK {
			t.Errorf("Check(%s): %v", brief(x), e)
		}
	}
	for _, w := range wrongs() {
		if e := Check(w.x); e != w.e {
			t.Errorf("Check(%s) = %v; want %v", brief(w.x), e, w.e)
		}
	}
}

// All functions return the error of a number first, in the order of the arguments.
func TestP5_1Errors(t *testing.T) {
	one := whole("1")
	as := func(x api.Form, e api.Errno) func() (any, api.Errno) {
		return func() (any, api.Errno) { return x.Kind + len(x.Text) + len(x.Kids), e }
	}
	of := func(n int, e api.Errno) func() (any, api.Errno) { return func() (any, api.Errno) { return n, e } }
	truth := func(b bool, e api.Errno) func() (any, api.Errno) {
		if b {
			return of(1, e)
		}
		return of(0, e)
	}
	two := func(x, y api.Form, e api.Errno) func() (any, api.Errno) {
		return as(api.Form{Kind: x.Kind + y.Kind, Text: x.Text + y.Text}, e)
	}
	for i, w := range wrongs() {
		other := wrongs()[(i+20)%len(wrongs())].x
		calls := []func() (any, api.Errno){
			as(Add(w.x, one)), as(Add(one, w.x)), as(Add(w.x, other)), as(Sub(w.x, one)), as(Sub(one, w.x)), as(Mul(w.x, other)), as(Mul(one, w.x)), as(Div(w.x, whole("0"))), as(Div(one, w.x)), as(Neg(w.x)), as(Power(w.x, 2)), as(Power(w.x, 5000)), as(Root(w.x)), as(Abs(w.x)), as(Signum(w.x)),
			truth(Equals(w.x, one)), truth(Equals(one, w.x)), truth(Eql(w.x, w.x)), truth(Eql(one, w.x)), of(Cmp(w.x, other)), of(Cmp(one, w.x)), of(Cmp(num("0 1"), w.x)), as(Greatest([]api.Form{one, w.x, other})), as(Greatest([]api.Form{w.x, num("0 1")})),
			two(Quotient(9, w.x, other)), two(Quotient(9, one, w.x)), two(Quotient(0, num("0 1"), w.x)), as(Complex(w.x, other)), as(Complex(one, w.x)), as(Real(w.x)), as(Imaginary(w.x)), as(Conjugate(w.x)), as(Numerator(w.x)), as(Denominator(w.x)), as(Rational(w.x)), as(Rationalize(w.x)), as(Float(w.x, 99)),
			as(Gcd([]api.Form{one, w.x})), as(Lcm([]api.Form{one, w.x, other})), as(Boole(99, w.x, other)), as(Boole(99, num("1.5"), w.x)), as(Shift(w.x, 1<<40)), func() (any, api.Errno) { s, e := Print(w.x, 99, true, true); return len(s), e },
		}
		for k, c := range calls {
			if v, e := c(); e != w.e || v != 0 {
				t.Errorf("call %d with %s: %v, %v; want %v", k, brief(w.x), v, e, w.e)
			}
		}
	}
}

func TestP5_1Arithmetic(t *testing.T) {
	call := map[string]func(x, y api.Form) (api.Form, api.Errno){"+": Add, "-": Sub, "*": Mul, "/": Div}
	for _, c := range []struct{ x, op, y, want string }{
		{"1/2", "+", "1/2", "1"}, {"1/2", "+", "1.0", "1.5"}, {"1.0", "+", "1d0", "2.0d0"}, {"1/3", "+", "1d0", "1.3333333333333333d0"}, {"-0.0", "+", "-0.0", "-0.0"}, {"-0.0", "+", "0", "0.0"}, {"-0.0", "-", "0", "-0.0"}, {"0", "-", "0.0", "0.0"}, {"0.1", "+", "0d0", "0.10000000149011612d0"}, {"-0.0", "+", "-0d0", "-0.0d0"},
		{"1 1", "+", "1 -1", "2"}, {"1 1", "+", "2", "3 1"}, {"1 1", "-", "1/2 1", "1/2"}, {"1.0 1.0", "-", "1 1", "0.0 0.0"}, {"1 1", "+", "1.0", "2.0 1.0"}, {"1", "-", "0.5 0.5", "0.5 -0.5"}, {"1 2", "+", "0 1d0", "1.0d0 3.0d0"},
		{"1 1", "*", "1 -1", "2"}, {"2", "*", "1/2 1/3", "1 2/3"}, {"0", "*", "1 1", "0"}, {"0 1", "*", "0 1", "-1"}, {"0.0 1.0", "*", "0 1", "-1.0 0.0"}, {"2.0", "*", "0 1", "0.0 2.0"}, {"-1.5", "*", "2", "-3.0"}, {"0", "*", "-1.5", "-0.0"},
		{"1", "/", "0 1", "0 -1"}, {"1", "/", "3", "1/3"}, {"6", "/", "-4", "-3/2"}, {"3 4", "/", "3 4", "1"}, {"1 2", "/", "3 -4", "-1/5 2/5"}, {"5 10", "/", "5", "1 2"}, {"1.0", "/", "4", "0.25"}, {"1.0 2.0", "/", "2.0", "0.5 1.0"},
		{"1", "/", "0", errZero}, {"1", "/", "0.0", errZero}, {"1.0", "/", "-0.0", errZero}, {"1 1", "/", "0", errZero}, {"1", "/", "0.0 0.0", errZero}, {"1 1", "/", "0d0", errZero},
		{huge, "+", "1.0", errOver}, {"1.0", "+", huge, errOver}, {"3e38", "+", "3e38", errOver}, {"-3e38", "-", "3e38", errOver}, {"1e20", "*", "1e20", errOver}, {"1e20", "/", "1e-20", errOver}, {"1d300", "*", "-1d300", errOver}, {huge, "/", "0.0", errOver},
		{"1.0 1.0", "/", "1e30 1.0", errOver}, {"3e38 3e38", "*", "3e38 1.0", errOver}, {"1.0", "/", "1e-30 1e-30", errZero}, {huge, "/", "1e-30 1e-30", errOver}, {huge, "/", "1e30 1.0", errOver},
	} {
		if got := shown(call[c.op](num(c.x), num(c.y))); got != c.want {
			t.Errorf("%.20s %s %s = %s; want %s", c.x, c.op, c.y, got, c.want)
		}
	}
	for x, want := range map[string]string{"5": "-5", "-1/2": "1/2", "0": "0", "0.0": "-0.0", "-0d0": "0.0d0", "1 -2": "-1 2", "0.0 1.5": "-0.0 -1.5"} {
		if got := shown(Neg(num(x))); got != want {
			t.Errorf("Neg of %s = %s", x, got)
		}
	}
	// A text that would be too long.
	long := whole(strings.Repeat("9", api.MaxDigits))
	for i, got := range []string{shown(Add(long, whole("1"))), shown(Mul(long, long)), shown(Div(whole("1"), long)), shown(Neg(long))} {
		if got != errLarge {
			t.Errorf("a long text, %d: %.20s", i, got)
		}
	}
	if x, e := Add(long, whole("-1")); e != api.OK || len(x.Text) != api.MaxDigits {
		t.Errorf("a text just as long as it may be: %v", e)
	}
}

func TestP5_1Powers(t *testing.T) {
	for _, c := range []struct {
		x    string
		n    int
		want string
	}{
		{"3/2", -2, "4/9"}, {"0", 0, "1"}, {"0.0", 0, "1"}, {"1.5 2.0", 0, "1"}, {"1.5", 1, "1.5"}, {"0 1", 1, "0 1"}, {"0 1", 2, "-1"}, {"0 1", 4096, "1"}, {"0 1", -1, "0 -1"}, {"1 1", 10, "0 32"}, {"1/2 1/2", 3, "-1/4 1/4"}, {"-2", 5, "-32"}, {"1.1", 2, "1.21"}, {"2.0", -1, "0.5"}, {"0", 5, "0"}, {"-1", -4096, "1"}, {"2d0", 10, "1024.0d0"},
		{"0", -1, errZero}, {"0.0", -3, errZero}, {"1e-30", -2, errZero}, {"1e30", 2, errOver}, {"1e30", -2, errOver}, {"1", 4097, errArg}, {"1", -4097, errArg}, {"1", math.MinInt, errArg}, {"1", math.MaxInt, errArg}, {"0", -5000, errArg},
		{huge, 4096, errLarge}, {"1/7", 4096, "fits"}, {huge, -4096, errLarge}, {"100000", 4000, errLarge}, {"99999/100001", 3900, errLarge},
	} {
		got := shown(Power(num(c.x), c.n))
		if got != c.want && !(c.want == "fits" && strings.HasPrefix(got, "1/")) {
			t.Errorf("%.20s to the power of %d = %.40s; want %s", c.x, c.n, got, c.want)
		}
	}
	// 2^16 to the power of 4096 has the Length 65537, -(2^16) to that of 4095 a lesser one; a product of complex numbers is as long as its parts.
	for _, c := range []struct {
		x    string
		n    int
		want api.Errno
	}{{"65536", 4096, api.ErrLarge}, {"65535", 4096, api.OK}, {"-65536", 4095, api.OK}, {"1/65536", 4096, api.ErrLarge}, {"1/65535", 4096, api.OK}, {"65536", -4096, api.ErrLarge}, {"65535 1", 4096, api.OK}, {"65537 1", 4096, api.ErrLarge}, {"1 1", 4096, api.OK}} {
		if _, e := Power(num(c.x), c.n); e != c.want {
			t.Errorf("%s to the power of %d: %v; want %v", c.x, c.n, e, c.want)
		}
	}
	// The product is made in its order: with floats that can be seen.
	third := num("0.33333334")
	want := third
	for range 2 {
		want, _ = Mul(want, want)
	}
	want, _ = Mul(want, third)
	want, _ = Mul(want, want)
	want, _ = Mul(want, third)
	if got, e := Power(third, 11); e != api.OK || shown(got, e) != shown(want, e) {
		t.Errorf("1/3 to the power of 11: %s; want %s", shown(got, e), shown(want, e))
	}
}

func TestP5_1Roots(t *testing.T) {
	for x, want := range map[string]string{
		"9/4": "3/2", "0": "0", "1": "1", "-4": "0 2", "-9/16": "0 3/4", "2": "1.4142135", "-2": "0.0 1.4142135", "1/2": "0.70710677", "2.25": "1.5", "2d0": "1.4142135623730951d0", "-0.0": "-0.0", "-0d0": "-0.0d0", "-2.25": "0.0 1.5", "-4d0": "0.0d0 2.0d0", "0 1": errType, "1.0 0.0": errType, "1e-45": "3.7433921e-23",
		"1" + strings.Repeat("0", 75): "3.1622776e37", "1" + strings.Repeat("0", 81): errOver, "-1" + strings.Repeat("0", 81): errOver, "1" + strings.Repeat("0", 82): "1" + strings.Repeat("0", 41), "1/1" + strings.Repeat("0", 95): "0.0", "-1/1" + strings.Repeat("0", 95): "0.0 0.0", "1/1" + strings.Repeat("0", 19000-1): "0.0", "3" + strings.Repeat("0", 19000): errOver,
	} {
		if got := shown(Root(num(x))); got != want && !(x == "1e-45" && strings.HasPrefix(got, "3.74")) {
			t.Errorf("Root of %.30s = %s; want %s", x, got, want)
		}
	}
	r := rand.New(rand.NewPCG(5, 1))
	for range 2000 {
		n, d := r.Uint64()>>(1+r.IntN(60))+1, r.Uint64()>>(1+r.IntN(60))+1
		x, _ := Div(whole(strconv.FormatUint(n, 10)), whole(strconv.FormatUint(d, 10)))
		got, e := Root(x)
		if got.Kind != api.FormSingle {
			continue
		}
		exact, _ := new(big.Float).SetPrec(300).Sqrt(new(big.Float).SetPrec(300).SetRat(big.NewRat(int64(n), int64(d)))).Float32()
		if bits, _ := strconv.ParseUint(got.Text, 16, 64); e != api.OK || uint32(bits) != math.Float32bits(exact) {
			t.Fatalf("Root of %d/%d = %s, %v; want %v", n, d, shown(got, e), e, exact)
		}
	}
	for x, want := range map[string][2]string{"5": {"5", "1"}, "-5": {"5", "-1"}, "0": {"0", "0"}, "-3/4": {"3/4", "-1"}, "3/4": {"3/4", "1"}, "-0.0": {"0.0", "-0.0"}, "0.0": {"0.0", "0.0"}, "-2.5": {"2.5", "-1.0"}, "7d5": {"700000.0d0", "1.0d0"}, "1 1": {errType, errType}, "0.0 0.0": {errType, errType}} {
		if abs, sign := shown(Abs(num(x))), shown(Signum(num(x))); abs != want[0] || sign != want[1] {
			t.Errorf("Abs and Signum of %s: %s, %s", x, abs, sign)
		}
	}
}

func TestP5_1Comparing(t *testing.T) {
	for _, c := range []struct {
		x, y   string
		equals bool
		eql    bool
		cmp    int // 9: ErrType
	}{
		{"1", "1", true, true, 0}, {"1", "1.0", true, false, 0}, {"1.0", "1d0", true, false, 0}, {"0.1", "0.1d0", false, false, 1}, {"0.0", "-0.0", true, false, 0}, {"0", "-0d0", true, false, 0}, {"1/3", "0.33333334", false, false, -1}, {"1/2", "0.5", true, false, 0}, {huge, "1d308", false, false, 1}, {"-" + huge, "-3e38", false, false, -1}, {"16777217", "16777216.0", false, false, 1},
		{"1 1", "1 1", true, true, 9}, {"1 1", "1.0 1.0", true, false, 9}, {"1 1", "1 2", false, false, 9}, {"1", "1.0 0.0", true, false, 9}, {"1", "1.0 -0.0", true, false, 9}, {"0.0 0.0", "-0.0 0.0", true, false, 9}, {"1 1", "1", false, false, 9},
	} {
		equals, e1 := Equals(num(c.x), num(c.y))
		eql, e2 := Eql(num(c.x), num(c.y))
		if e1 != api.OK || e2 != api.OK || equals != c.equals || eql != c.eql {
			t.Errorf("%.20s and %s: Equals %v, Eql %v", c.x, c.y, equals, eql)
		}
		n, e := Cmp(num(c.x), num(c.y))
		if c.cmp == 9 && (n != 0 || e != api.ErrType) || c.cmp != 9 && (n != c.cmp || e != api.OK) {
			t.Errorf("Cmp of %.20s and %s: %d, %v", c.x, c.y, n, e)
		}
	}
	for _, c := range []struct {
		l    []string
		want string
	}{{nil, errNone}, {[]string{"1"}, "1"}, {[]string{"1", "2.0", "2", "2d0"}, "2.0"}, {[]string{"-1/2", "-1/3", "-1"}, "-1/3"}, {[]string{"-0.0", "0", "0.0"}, "-0.0"}, {[]string{"1", "1 1", "3"}, errType}, {[]string{"1 1"}, errType}, {[]string{huge, "1d308"}, huge}} {
		if got := shown(Greatest(nums(c.l...))); got != c.want {
			t.Errorf("Greatest of %s: %.20s", brief(c.l), got)
		}
	}
	if got := shown(Greatest([]api.Form{num("0 1"), {}})); got != errType {
		t.Errorf("Greatest: %s", got)
	}
	if got := shown(Greatest([]api.Form{whole("01"), num("0 1")})); got != errForm {
		t.Errorf("Greatest: %s", got)
	}
}

func TestP5_1Quotients(t *testing.T) {
	for _, c := range []struct {
		way        int
		x, y, q, r string
	}{
		{Floor, "-3.5", "2", "-2", "0.5"}, {Ceiling, "-3.5", "2", "-1", "-1.5"}, {Truncate, "-3.5", "2", "-1", "-1.5"}, {Round, "-3.5", "2", "-2", "0.5"}, {Round, "5", "2", "2", "1"}, {Round, "7/2", "1", "4", "-1/2"}, {Floor, "7", "3", "2", "1"}, {Floor, "1/2", "1/3", "1", "1/6"}, {Floor, "6.0", "3", "2", "0.0"}, {Floor, "-0.0", "3", "0", "0.0"}, {Floor, "7.5", "2d0", "3", "1.5d0"}, {Floor, "1d300", "3", "", "1.0d0"}, {Floor, "1", "1e-45", "", "0.0"},
		{Floor, "1", "0", errZero, ""}, {Floor, "1", "0.0", errZero, ""}, {Round, "1.0", "-0d0", errZero, ""}, {4, "1", "0", errArg, ""}, {-1, "1", "1", errArg, ""}, {math.MinInt, "1", "1", errArg, ""}, {9, "0 1", "0", errType, ""}, {9, "1", "0 1", errType, ""}, {0, huge, "1.0", errOver, ""}, {0, "1.0", huge, errOver, ""}, {0, huge, "0.0", errZero, ""}, {0, huge, huge + "1", "0", huge},
	} {
		q, r, e := Quotient(c.way, num(c.x), num(c.y))
		if e != api.OK {
			if shown(q, e) != c.q || shown(r, e) != c.q {
				t.Errorf("%.10s by %.10s, way %d: %s", c.x, c.y, c.way, shown(q, e))
			}
			continue
		}
		if c.q != "" && shown(q, e) != c.q || q.Kind != api.FormInt || c.y != "3" && c.x != "1d300" && shown(r, e) != c.r {
			t.Errorf("%.10s by %.10s, way %d: %s, %s", c.x, c.y, c.way, shown(q, e), shown(r, e))
		}
	}
	long := whole("1" + strings.Repeat("0", api.MaxDigits-1))
	tenth := num("1/10")
	if q, r, e := Quotient(Floor, long, tenth); shown(q, e) != errLarge || shown(r, e) != errLarge {
		t.Errorf("a long quotient: %v", e)
	}
	// Beside the float: the exact remainder is rounded.
	q, r, e := Quotient(Floor, ofBits("80000001"), ofBits("7f000000"))
	if shown(q, e) != "-1" || r.Text != "7f000000" {
		t.Errorf("a remainder that is rounded: %s, %v", shown(q, e), r)
	}
}

func TestP5_1Parts(t *testing.T) {
	for _, c := range []struct{ re, im, want string }{
		{"1", "2", "1 2"}, {"1", "0", "1"}, {"1/2", "-2/3", "1/2 -2/3"}, {"1", "2.0", "1.0 2.0"}, {"1.0", "0", "1.0 0.0"}, {"0", "0.0", "0.0 0.0"}, {"1d0", "1.0", "1.0d0 1.0d0"}, {"-0.0", "0d0", "-0.0d0 0.0d0"}, {"1 1", "0", errType}, {"0", "1 1", errType}, {huge, "1.0", errOver}, {"1d0", huge, errOver},
	} {
		if got := shown(Complex(num(c.re), num(c.im))); got != c.want {
			t.Errorf("Complex of %.10s and %.10s: %s", c.re, c.im, got)
		}
	}
	for x, want := range map[string][5]string{ // real and imaginary part, conjugate, numerator, denominator
		"5": {"5", "0", "5", "5", "1"}, "-6/4": {"-3/2", "0", "-3/2", "-3", "2"}, "0": {"0", "0", "0", "0", "1"}, "2.5": {"2.5", "0.0", "2.5", errType, errType}, "-0d0": {"-0.0d0", "0.0d0", "-0.0d0", errType, errType}, "1 2": {"1", "2", "1 -2", errType, errType}, "1.0 0.0": {"1.0", "0.0", "1.0 -0.0", errType, errType},
	} {
		y := num(x)
		if got := [5]string{shown(Real(y)), shown(Imaginary(y)), shown(Conjugate(y)), shown(Numerator(y)), shown(Denominator(y))}; got != want {
			t.Errorf("parts of %s: %v", x, got)
		}
	}
}

func TestP5_1Kinds(t *testing.T) {
	for _, c := range []struct {
		x                 api.Form
		rational, simpler string
	}{
		{num("3/4"), "3/4", "3/4"}, {num("-7"), "-7", "-7"}, {ofBits("3eaaaaab"), "11184811/33554432", "1/3"}, {ofBits("beaaaaab"), "-11184811/33554432", "-1/3"}, {num("-0.0"), "0", "0"}, {num("0d0"), "0", "0"}, {num("0.1"), "13421773/134217728", "1/10"}, {num("0.1d0"), "3602879701896397/36028797018963968", "1/10"}, {num("1.5"), "3/2", "3/2"}, {num("16777218.0"), "16777218", "16777218"}, {num("16777220.0"), "16777220", "16777219"}, {num("16777216.0"), "16777216", "16777216"}, {num("33554432.0"), "33554432", "33554431"}, {num("0 1"), errType, errType}, {num("1.0 0.0"), errType, errType},
		{ofBits("7f7fffff"), "340282346638528859811704183484516925440", "340282336497324057985868971510891282433"},
	} {
		if got := shown(Rational(c.x)); got != c.rational {
			t.Errorf("Rational of %v = %s", c.x, got)
		}
		if got := shown(Rationalize(c.x)); got != c.simpler {
			t.Errorf("Rationalize of %v = %s; want %s", c.x, got, c.simpler)
		}
	}
	for _, c := range []struct {
		x    string
		kind int
		want string
	}{
		{"1/4", api.FormDouble, "0.25d0"}, {"1/3", api.FormSingle, "0.33333334"}, {"1.5", api.FormSingle, "1.5"}, {"0.1", api.FormDouble, "0.10000000149011612d0"}, {"0.1d0", api.FormSingle, "0.1"}, {"-0.0", api.FormDouble, "-0.0d0"}, {"-0d0", api.FormSingle, "-0.0"}, {"1d-300", api.FormSingle, "0.0"}, {"-1d-300", api.FormSingle, "-0.0"}, {"1 2", api.FormSingle, "1.0 2.0"}, {"1.0 0.0", api.FormDouble, "1.0d0 0.0d0"},
		{"1d300", api.FormSingle, errOver}, {huge, api.FormDouble, errOver}, {"1 " + huge, api.FormDouble, errOver}, {"1", api.FormInt, errArg}, {"1", api.FormComplex, errArg}, {"1", 0, errArg}, {huge, 99, errArg}, {"1 1", -1, errArg},
	} {
		if got := shown(Float(num(c.x), c.kind)); got != c.want {
			t.Errorf("Float(%.10s, %d) = %s", c.x, c.kind, got)
		}
	}
}

func TestP5_1Integers(t *testing.T) {
	for _, c := range []struct {
		l        []string
		gcd, lcm string
	}{
		{nil, "0", "1"}, {[]string{"12", "-18"}, "6", "36"}, {[]string{"0"}, "0", "0"}, {[]string{"-7"}, "7", "7"}, {[]string{"4", "0", "6"}, "2", "0"}, {[]string{"4", "6", "10"}, "2", "60"}, {[]string{"1", "1/2"}, errType, errType}, {[]string{"1.0"}, errType, errType}, {[]string{"0", "1 1"}, errType, errType},
	} {
		if gcd, lcm := shown(Gcd(nums(c.l...))), shown(Lcm(nums(c.l...))); gcd != c.gcd || lcm != c.lcm {
			t.Errorf("Gcd and Lcm of %v: %s, %s", c.l, gcd, lcm)
		}
	}
	if got := shown(Gcd([]api.Form{num("1.5"), {}})); got != errType {
		t.Errorf("Gcd: %s", got)
	}
	if got := shown(Lcm([]api.Form{whole("01"), num("1.5")})); got != errForm {
		t.Errorf("Lcm: %s", got)
	}
	// The Length of the least common multiple may be MaxBits, and not more.
	half, _ := Shift(whole("1"), 32768)
	odd, _ := Sub(half, whole("1"))
	if x, e := Lcm([]api.Form{half, odd}); e != api.OK || len(x.Text) != 19729 {
		t.Errorf("a long Lcm: %v", e)
	}
	above, _ := Add(half, whole("1"))
	if got := shown(Lcm([]api.Form{half, above})); got != errLarge {
		t.Errorf("an Lcm that is just too long: %.20s", got)
	}
	if got := shown(Lcm([]api.Form{half, odd, whole("3"), whole("7")})); got != errLarge {
		t.Errorf("an Lcm that is too long: %.20s", got)
	}
	if got := shown(Lcm([]api.Form{half, odd, whole("3"), whole("7"), num("1/2")})); got != errType {
		t.Errorf("an Lcm that is too long, and a fraction: %.20s", got)
	}
	if got := shown(Lcm([]api.Form{half, odd, whole("3"), whole("7"), whole("0")})); got != "0" {
		t.Errorf("an Lcm that is too long, and 0: %.20s", got)
	}
	for _, c := range []struct{ got, want string }{
		{shown(Boole(8, num("12"), num("10"))), "8"}, {shown(Boole(6, num("-1"), num("5"))), "-6"}, {shown(Boole(16, num("1"), num("1"))), errArg}, {shown(Boole(-1, num("1"), num("1"))), errArg}, {shown(Boole(16, num("1.0"), num("1"))), errType}, {shown(Boole(16, num("1"), num("1/2"))), errType}, {shown(Boole(8, num("1"), num("1 1"))), errType},
		{shown(Shift(num("-5"), -1)), "-3"}, {shown(Shift(num("5"), 3)), "40"}, {shown(Shift(num("1"), api.MaxBits)), errLarge}, {shown(Shift(num("0"), math.MaxInt)), "0"}, {shown(Shift(num("7"), math.MinInt)), "0"}, {shown(Shift(num("1/2"), 1)), errType}, {shown(Shift(num("1.0"), math.MaxInt)), errType},
	} {
		if c.got != c.want {
			t.Errorf("%s; want %s", c.got, c.want)
		}
	}
}

func TestP5_1Read(t *testing.T) {
	for _, c := range []struct {
		s      string
		base   int
		double bool
		kind   int
		text   string
	}{
		{"+06/4", 10, false, api.FormRatio, "3/2"}, {"-4/2", 10, false, api.FormInt, "-2"}, {"00012", 10, true, api.FormInt, "12"}, {"-0", 10, false, api.FormInt, "0"}, {"+fF", 16, false, api.FormInt, "255"}, {"zz/z", 36, false, api.FormInt, "37"}, {"1e5", 16, false, api.FormInt, "485"}, {"1d0", 14, false, api.FormInt, "378"}, {"1e5", 14, false, api.FormSingle, "47c35000"},
		{"10.", 2, false, api.FormInt, "10"}, {"-19.", 16, false, api.FormInt, "-19"}, {"+1.", 10, true, api.FormInt, "1"}, {"99.", 2, false, api.FormInt, "99"},
		{"1e5", 10, false, api.FormSingle, "47c35000"}, {"1E5", 10, true, api.FormDouble, "40f86a0000000000"}, {"1d0", 10, false, api.FormDouble, "3ff0000000000000"}, {"1L0", 10, false, api.FormDouble, "3ff0000000000000"}, {"1f0", 10, true, api.FormSingle, "3f800000"}, {"1S+0", 10, true, api.FormSingle, "3f800000"}, {".5", 10, false, api.FormSingle, "3f000000"}, {"-.5", 10, true, api.FormDouble, "bfe0000000000000"}, {"+1.5", 2, false, api.FormSingle, "3fc00000"}, {"1.e2", 10, false, api.FormSingle, "42c80000"}, {"-0.0", 10, false, api.FormSingle, "80000000"}, {".5d-1", 10, false, api.FormDouble, "3fa999999999999a"}, {"9.5", 2, false, api.FormSingle, "41180000"}, {"1.5e5", 16, false, api.FormSingle, "48127c00"}, {"0e999999999", 10, false, api.FormSingle, "00000000"},
	} {
		x, e := Read(c.s, c.base, c.double)
		if e != api.OK || x.Kind != c.kind || x.Text != c.text || x.Home != "" || len(x.Kids) != 0 {
			t.Errorf("Read(%q, %d, %v) = %v, %v", c.s, c.base, c.double, x, e)
		}
	}
	for _, c := range []struct {
		s    string
		base int
		want string
	}{
		{"", 10, errForm}, {"+", 10, errForm}, {"-", 10, errForm}, {".", 10, errForm}, {"-.", 10, errForm}, {"1+", 10, errForm}, {"--1", 10, errForm}, {"1/", 10, errForm}, {"/2", 10, errForm}, {"1/-2", 10, errForm}, {"1/+2", 10, errForm}, {"1/2/3", 10, errForm}, {"1/2.", 10, errForm}, {"1./2", 10, errForm}, {"1e", 10, errForm}, {"1e+", 10, errForm}, {"e1", 10, errForm}, {".e1", 10, errForm}, {"1x0", 10, errForm}, {"1.5.", 10, errForm}, {"1..", 10, errForm}, {"1e5.", 10, errForm}, {"1e5e5", 10, errForm}, {"1 ", 10, errForm}, {" 1", 10, errForm}, {"ff", 10, errForm}, {"2", 2, errForm}, {"f.", 16, errForm}, {"f.5", 16, errForm}, {"a.5", 16, errForm}, {"1é0", 10, errForm}, {"é", 10, errForm}, {"1\xff", 10, errForm}, {"inf", 10, errForm}, {"1_0.0", 10, errForm},
		{"1/0", 10, errZero}, {"-0/00", 10, errZero}, {"1e39", 10, errOver}, {"-1d309", 10, errOver}, {"1e999999999999", 10, errOver},
		{"1", 1, errArg}, {"1", 37, errArg}, {"x", 0, errArg}, {"1/0", -10, errArg}, {strings.Repeat("x", api.MaxDigits+1), 99, errArg},
		{strings.Repeat("x", api.MaxDigits+1), 10, errLarge}, {strings.Repeat("1", api.MaxDigits+1), 10, errLarge}, {strings.Repeat("x", api.MaxDigits), 10, errForm}, {strings.Repeat("z", api.MaxDigits), 36, errLarge}, {strings.Repeat("9", api.MaxDigits-2) + ".0", 10, errOver},
	} {
		if got := shown(Read(c.s, c.base, false)); got != c.want {
			t.Errorf("Read(%.20q, %d) = %.20s; want %s", c.s, c.base, got, c.want)
		}
	}
	if x, e := Read(strings.Repeat("9", api.MaxDigits), 10, false); e != api.OK || len(x.Text) != api.MaxDigits {
		t.Errorf("Read of a long integer: %v", e)
	}
	if x, e := Read(strings.Repeat("1", api.MaxDigits), 2, false); e != api.OK || len(x.Text) != 6021 {
		t.Errorf("Read of a long integer in the base 2: %v", e)
	}
}

func TestP5_1Print(t *testing.T) {
	for _, c := range []struct {
		x             string
		base          int
		radix, double bool
		want          string
	}{
		{"-255", 16, false, false, "-FF"}, {"-255", 16, true, false, "#x-FF"}, {"255", 8, true, false, "#o377"}, {"5", 2, true, false, "#b101"}, {"5", 3, true, false, "#3r12"}, {"35", 36, true, false, "#36rZ"}, {"12", 10, true, false, "12."}, {"-1/2", 10, true, false, "#10r-1/2"}, {"1/2", 2, true, false, "#b1/10"}, {"1/2", 10, false, false, "1/2"}, {"0", 10, true, false, "0."},
		{"1.5", 16, true, false, "1.5"}, {"1.5", 10, false, true, "1.5f0"}, {"1.5d0", 2, false, true, "1.5"}, {"1.5d0", 10, false, false, "1.5d0"}, {"1e10", 10, false, true, "1.0f10"}, {"-0.0", 10, false, false, "-0.0"},
		{"1 -2", 10, false, false, "#C(1 -2)"}, {"10 -2/3", 16, false, false, "#C(A -2/3)"}, {"1.0 2.5", 10, false, true, "#C(1.0f0 2.5f0)"}, {"1 1/2", 10, true, false, "#C(1. #10r1/2)"}, {"10 11", 16, true, false, "#C(#xA #xB)"},
	} {
		if s, e := Print(num(c.x), c.base, c.radix, c.double); e != api.OK || s != c.want {
			t.Errorf("Print(%s, %d, %v, %v) = %q, %v", c.x, c.base, c.radix, c.double, s, e)
		}
	}
	for _, base := range []int{1, 37, 0, -16, math.MaxInt} {
		if s, e := Print(whole("1"), base, true, false); e != api.ErrArg || s != "" {
			t.Errorf("Print in the base %d: %q, %v", base, s, e)
		}
	}
}

// rationals are numbers of the first two kinds, and complex ones with such parts.
func rationals(r *rand.Rand, count int, withComplex bool) []api.Form {
	out := nums("0", "1", "-1", "1/2", "-2/3", huge)
	part := func() api.Form {
		n := strconv.FormatInt(int64(r.Uint64())>>r.IntN(64), 10)
		d := strconv.FormatUint(1+r.Uint64()>>(1+r.IntN(63)), 10)
		x, _ := Read(n+"/"+d, 10, false)
		return x
	}
	for len(out) < count {
		x := part()
		if withComplex && r.IntN(2) == 0 {
			x, _ = Complex(x, part())
		}
		out = append(out, x)
	}
	return out
}

// reals are numbers of the first four kinds.
func reals(r *rand.Rand, count int) []api.Form {
	out := append(rationals(r, count/2, false), nums("0.0", "-0.0", "0d0", "-0d0", "1.0", "1d0", "0.5", "3e38", "1e-45")...)
	for len(out) < count {
		x := ofBits(strconv.FormatUint(1<<32|r.Uint64()>>32, 16)[1:])
		if r.IntN(2) == 0 {
			x = ofBits(strconv.FormatUint(r.Uint64()>>2|1<<62, 16))
		}
		if r.IntN(3) == 0 {
			x, _ = Float(out[r.IntN(len(out))], api.FormDouble)
		}
		if Check(x) == api.OK {
			out = append(out, x)
		}
	}
	return out
}

func TestP5_2Field(t *testing.T) {
	r := rand.New(rand.NewPCG(5, 2))
	l := rationals(r, 60, true)
	must := func(x api.Form, e api.Errno) api.Form {
		if e != api.OK || Check(x) != api.OK {
			t.Fatalf("%v, %v", x, e)
		}
		return x
	}
	for range 1500 {
		x, y, z := l[r.IntN(60)], l[r.IntN(60)], l[r.IntN(60)]
		same := func(what string, a, b api.Form) {
			if is, e := Eql(a, b); !is || e != api.OK {
				t.Fatalf("%s: %v, %v, %v", what, x, y, z)
			}
		}
		same("Add is not commutative", must(Add(x, y)), must(Add(y, x)))
		same("Mul is not commutative", must(Mul(x, y)), must(Mul(y, x)))
		same("Add is not associative", must(Add(must(Add(x, y)), z)), must(Add(x, must(Add(y, z)))))
		same("Mul is not associative", must(Mul(must(Mul(x, y)), z)), must(Mul(x, must(Mul(y, z)))))
		same("Mul is not distributive", must(Mul(x, must(Add(y, z)))), must(Add(must(Mul(x, y)), must(Mul(x, z)))))
		same("Sub does not undo Add", must(Sub(must(Add(x, y)), y)), x)
		if q, e := Div(must(Mul(x, y)), y); e == api.OK {
			same("Div does not undo Mul", must(q, e), x)
		} else if y.Text != "0" {
			t.Fatalf("Div by %v: %v", y, e)
		}
	}
}

func TestP5_3Comparing(t *testing.T) {
	r := rand.New(rand.NewPCG(5, 3))
	l := reals(r, 120)
	for range 4000 {
		x, y, z := l[r.IntN(120)], l[r.IntN(120)], l[r.IntN(120)]
		a, _ := Cmp(x, y)
		b, _ := Cmp(y, x)
		c, _ := Cmp(y, z)
		d, _ := Cmp(x, z)
		equals, _ := Equals(x, y)
		reflexive, _ := Equals(x, x)
		eql, _ := Eql(x, y)
		if a != -b || a <= 0 && c <= 0 && d > 0 || a == 0 && c != d || equals != (a == 0) || !reflexive || eql && !equals {
			t.Fatalf("%v, %v, %v: %d, %d, %d", x, y, z, a, c, d)
		}
		v, _ := Rational(x)
		w, _ := Rational(y)
		p, _ := new(big.Rat).SetString(v.Text)
		q, _ := new(big.Rat).SetString(w.Text)
		if a != p.Cmp(q) {
			t.Fatalf("Cmp of %v and %v: %d", x, y, a)
		}
	}
}

func TestP5_4Quotients(t *testing.T) {
	r := rand.New(rand.NewPCG(5, 4))
	l := rationals(r, 60, false)
	for range 1500 {
		x, y := l[r.IntN(60)], l[r.IntN(60)]
		for way := range 4 {
			q, m, e := Quotient(way, x, y)
			if y.Text == "0" {
				if e != api.ErrZero {
					t.Fatalf("by 0: %v", e)
				}
				continue
			}
			back, _ := Mul(y, q)
			back, _ = Add(back, m)
			if is, _ := Eql(back, x); e != api.OK || !is {
				t.Fatalf("%v by %v, way %d: %v, %v", x, y, way, q, m)
			}
		}
	}
}

func TestP5_5Contagion(t *testing.T) {
	r := rand.New(rand.NewPCG(5, 5))
	l := reals(r, 120)
	class := func(x api.Form) int { return max(x.Kind, api.FormRatio) }
	for range 3000 {
		x, y := l[r.IntN(120)], l[r.IntN(120)]
		for i, f := range []func(x, y api.Form) (api.Form, api.Errno){Add, Sub, Mul} {
			if z, e := f(x, y); e == api.OK && class(z) != max(class(x), class(y)) || e != api.OK && e != api.ErrOver {
				t.Fatalf("operation %d of %v and %v: %v, %v", i, x, y, z, e)
			}
		}
	}
}

func TestP5_6Kinds(t *testing.T) {
	r := rand.New(rand.NewPCG(5, 6))
	for _, x := range reals(r, 1500) {
		if x.Kind < api.FormSingle {
			continue
		}
		want := x
		if is, _ := Equals(x, whole("0")); is {
			want = api.Form{Kind: x.Kind, Text: strings.Repeat("0", len(x.Text))}
		}
		exact, _ := Rational(x)
		simple, e := Rationalize(x)
		if e != api.OK {
			t.Fatalf("Rationalize of %v: %v", x, e)
		}
		for _, y := range []api.Form{exact, simple} {
			if back, e := Float(y, x.Kind); e != api.OK || back.Text != want.Text || back.Kind != want.Kind {
				t.Fatalf("Float of %v: %v, %v; want %v", y, back, e, x)
			}
		}
		// Simpler ones: the parts of the continued fraction, and all fractions with small denominators near it.
		v, _ := new(big.Rat).SetString(exact.Text)
		s, _ := new(big.Rat).SetString(simple.Text)
		for d := int64(1); d < 40 && s.Denom().Cmp(big.NewInt(d)) > 0; d++ {
			n := roundedTimes(v, d)
			for k := int64(-1); k <= 1; k++ {
				y, _ := Read(new(big.Int).Add(n, big.NewInt(k)).String()+"/"+strconv.FormatInt(d, 10), 10, false)
				if back, e := Float(y, x.Kind); e == api.OK && back.Text == x.Text {
					t.Fatalf("%v is simpler than Rationalize of %v: %v", y, x, simple)
				}
			}
		}
		if s.IsInt() {
			nearer := new(big.Int).Sub(new(big.Int).Abs(s.Num()), big.NewInt(1))
			y := whole(nearer.String())
			if s.Sign() < 0 {
				y, _ = Neg(y)
			}
			if back, e := Float(y, x.Kind); s.Sign() != 0 && e == api.OK && back.Text == x.Text {
				t.Fatalf("%v is simpler than Rationalize of %v: %v", y, x, simple)
			}
		}
	}
}

// roundedTimes returns v d, rounded to an integer.
func roundedTimes(v *big.Rat, d int64) *big.Int {
	n := new(big.Int).Mul(v.Num(), big.NewInt(2*d))
	n.Add(n, v.Denom())
	return n.Div(n, new(big.Int).Lsh(v.Denom(), 1))
}

func TestP5_7Texts(t *testing.T) {
	r := rand.New(rand.NewPCG(5, 7))
	for _, x := range reals(r, 1200) {
		base, isDouble := 2+r.IntN(35), r.IntN(2) == 0
		s, e := Print(x, base, false, isDouble)
		if e != api.OK {
			t.Fatalf("Print of %v: %v", x, e)
		}
		if back, e := Read(s, base, isDouble); e != api.OK || back.Kind != x.Kind || back.Text != x.Text {
			t.Fatalf("Read(%q, %d) = %v, %v; want %v", s, base, back, e, x)
		}
	}
	for range 1000 {
		x := whole(strconv.FormatInt(int64(r.Uint64())>>r.IntN(64), 10))
		y := whole(strconv.FormatInt(int64(r.Uint64())>>r.IntN(64), 10))
		gcd, _ := Gcd([]api.Form{x, y})
		lcm, _ := Lcm([]api.Form{x, y})
		product, _ := Mul(x, y)
		product, _ = Abs(product)
		both, _ := Mul(gcd, lcm)
		if both.Text != product.Text {
			t.Fatalf("Gcd times Lcm of %v and %v", x, y)
		}
	}
}

func TestP5_8Powers(t *testing.T) {
	r := rand.New(rand.NewPCG(5, 8))
	for _, x := range rationals(r, 80, true) {
		m, n := r.IntN(9), r.IntN(9)
		a, _ := Power(x, m)
		b, _ := Power(x, n)
		c, e := Power(x, m+n)
		product, _ := Mul(a, b)
		if is, _ := Eql(c, product); e != api.OK || !is {
			t.Fatalf("%v to the power of %d + %d: %v", x, m, n, e)
		}
		if x.Kind == api.FormComplex {
			continue
		}
		square, _ := Mul(x, x)
		root, e := Root(square)
		abs, _ := Abs(x)
		if e != api.OK || root.Text != abs.Text || root.Kind != abs.Kind {
			t.Fatalf("Root of the square of %v: %v, %v", x, root, e)
		}
	}
}

// What is handed in is not changed.
func TestArgumentsStay(t *testing.T) {
	x, y := num("1/2 3"), num("-2 1/7")
	Add(x, y)
	Mul(x, y)
	Div(x, y)
	Neg(x)
	z, _ := Conjugate(x)
	z.Kids[0].Text = "9"
	w, _ := Real(x)
	w.Text = "9"
	if shown(x, api.OK) != "1/2 3" || shown(y, api.OK) != "-2 1/7" {
		t.Errorf("%v, %v", x, y)
	}
}

// anyText returns a text that looks a little like a number.
func anyText(r *rand.Rand) string {
	letters := []string{"0", "1", "9", "/", ".", "+", "-", "e", "D", "f", "x", "\xff", "é", " "}
	s := ""
	for range r.IntN(9) {
		s += letters[r.IntN(len(letters))]
	}
	return s
}

// P1: no function panics; what Read returns is a number.
func TestP5_1AnyTexts(t *testing.T) {
	r := rand.New(rand.NewPCG(5, 99))
	for range 30000 {
		s := anyText(r)
		x, e := Read(s, r.IntN(40), r.IntN(2) == 0)
		if e == api.OK && Check(x) != api.OK || e != api.OK && x.Kind != 0 {
			t.Fatalf("Read(%q) = %v, %v", s, x, e)
		}
		y := api.Form{Kind: r.IntN(8), Text: anyText(r)}
		if r.IntN(3) == 0 {
			y = parts(y, api.Form{Kind: r.IntN(8), Text: anyText(r)})
		}
		Add(x, y)
		Div(y, x)
		Power(y, r.IntN(5)-2)
		Root(y)
		Rationalize(y)
		Quotient(r.IntN(6)-1, x, y)
		Print(y, r.IntN(40), true, false)
		Boole(r.IntN(18)-1, x, y)
	}
}
