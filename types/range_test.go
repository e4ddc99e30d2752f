package types_test

import (
	"math"
	"math/big"
	"strconv"
	"strings"
	"testing"

	"commonform/api"
	"commonform/forms"
	"commonform/types"
)

func TestP14_1Empty(t *testing.T) {
	for s, want := range map[string]bool{
		"nil": true, "t": false, "(and)": false, "(or)": true, "(member)": true, "(and integer (not fixnum) (integer 0 100))": true, "(and fixnum bignum)": true, "(and rational (not integer) (not ratio))": true, "(and real (not rational) (not float))": true, "(and symbol (not keyword) (not (eql nil)) (not (eql t)) (not (eql p::x)))": false,
		"(integer (1) (2))": true, "(and integer (real (1) 3/2))": true, "(rational (1) (2))": false, "(rational (1) (1))": true, "(rational 1 1)": false, "(and ratio (rational 1 1))": true, "(and ratio (rational 1/2 1/2))": false, "(integer (-100000000000000000001) (-100000000000000000000))": true, "(and integer (real (1/3) (2/3)))": true, "(and integer (real (1/3) (4/3)))": false,
		"(single-float (0) (1e-45))": true, "(single-float (0) 1e-45)": false, "(double-float (0) (1e-45))": false, "(double-float (0) (4.9d-324))": true, "(single-float (1.0) (1.0000001))": true, "(double-float (1.0) (1.0000001))": false, "(single-float 1/3 1/3)": true, "(float 1/3 1/3)": true, "(float 1/2 1/2)": false,
		"(single-float (3.4028235e38))": true, "(single-float 3.4028235e38)": false, "(double-float (3.4028235e38))": false, "(double-float (1.7976931348623157d308))": true, "(single-float * (-3.4028235e38))": true, "(single-float 1d300)": true, "(single-float * -1d300)": true, "(single-float -1d300 (-3.4028235e38))": true, "(single-float -1d300 -3.4028235e38)": false, "(float (3.4028235e38) (1d300))": false, "(single-float (3.4028235e38) (1d300))": true,
		"(and (single-float 0 0) (not (eql 0.0)))": false, "(and (single-float 0 0) (not (member 0.0 -0.0)))": true, "(and (float 0 0) (not (member 0.0 -0.0 0d0)))": false, "(and (float 0 0) (not (member 0.0 -0.0 0d0 -0d0)))": true, "(and (real 0 0) (not (member 0 0.0 -0.0 0d0 -0d0)))": true, "(single-float (-1e-45) (1e-45))": false, "(and (single-float (-1e-45) (1e-45)) (not (eql 0.0)) (not (eql -0.0)))": true,
		"(and complex (not (eql #C(0 1))))": false, "(and character (not (member #\\a #\\b)))": false, "(and complex real)": true, "(and keyword (not (member :k0 :k1)))": false, "(and boolean (not null) (not (eql t)))": true,
		"(and vector (not string) (not bit-vector) (not simple-vector))": true, "(and (array * (*)) (not vector))": true, "(and array (not vector) (array * 1))": true, "(and (array * 2) (not (array * (* *))))": true, "(and (array * 0) (not (array * ())))": true, "(and array (not (array * 0)) (not (array * 1)) (not (array * 2)) (not (array * 3)) (not (array * 4)))": false,
		"(and (string *) (not (string 0)) (not (vector * 1)) (not (array * (2))))": false, "(and (string 3) (not (array * (3))))": true, "(and (vector * 3) (not (string 3)) (not (bit-vector 3)) (not (simple-vector 3)))": true, "(and (array * (1 *)) (array * (* 2)) (not (array * (1 2))))": true, "(and (array * (1 *)) (array * (* 2 *)))": true, "(and string (vector * 3) (vector * 4))": true, "(and (array * 2) (not (array * (0 *))) (not (array * (1 *))) (not (array * (2 *))) (not (array * (3 *))) (not (array * (4 *))))": false, "(and (vector * *) (not array))": true, "(array * (1 2 3 4))": false, "(and (array * (1 * * *)) (array * (* 2 * *)) (not (array * (* * 0 *))) (not (array * (* * * 0))))": false, "(and (array * (* 2 * *)) (not (array * (1 * * *))) (not (array * (0 * * *))))": false, "(and string (not (string 0)) (not (string 1)))": false,
		"(cons nil)": true, "(cons t nil)": true, "(and (cons bit) (cons string))": true, "(and (cons bit *) (cons * bit) (not (cons bit bit)))": true, "(and (cons (or bit string) (or bit string)) (not (cons bit bit)) (not (cons string string)) (not (cons bit string)))": false, "(and (cons (or bit string) (or bit string)) (not (cons bit bit)) (not (cons string string)) (not (cons bit string)) (not (cons string bit)))": true, "(and cons list (not sequence))": true, "(and (not atom) (not cons))": true, "(and (cons cons) (not (cons (cons * *))))": true,
		"(and (cons (cons bit)) (not (cons (cons (eql 0)))) (not (cons (cons (eql 1)))))": true, "(cons (cons (cons (cons nil))))": true, "(cons (cons (cons (cons t nil))))": true, "(and (cons (cons * (cons bit))) (not (cons (cons * (cons fixnum)))))": true,
		"(and function hash-table)": true, "(and (not atom) function)": true, "(and atom (not symbol) (not number) (not character) (not array) (not function) (not hash-table))": false, "(and symbol (or function hash-table))": true,
	} {
		none, w, e := types.Empty(parsed(t, s))
		if e != api.OK || none != want {
			t.Errorf("Empty(%s) = %v, %v, %v", s, none, w, e)
		}
		if !want && (!isObject(w) || !isOf(w, parsed(t, s))) || want && !forms.Equal(w, api.Form{}) {
			t.Errorf("Empty(%s) has the witness %v", s, w)
		}
	}
}

func TestP14_1Subtypep(t *testing.T) {
	for _, x := range []struct {
		a, b string
		want bool
	}{
		{"(integer 1 5)", "(or (integer 0 3) (integer 4 9))", true}, {"(rational 1 5)", "(or (rational 0 3) (rational 4 9))", false}, {"(cons bit bit)", "(or (cons (eql 0)) (cons * (eql 1)) (cons (eql 1) (eql 0)))", true}, {"(cons bit bit)", "(or (cons (eql 0)) (cons * (eql 1)))", false},
		{"(mod 5)", "(unsigned-byte 3)", true}, {"(unsigned-byte 3)", "(mod 7)", false}, {"(signed-byte 61)", "fixnum", true}, {"fixnum", "(signed-byte 61)", true}, {"(signed-byte 62)", "fixnum", false}, {"(unsigned-byte 200)", "unsigned-byte", true}, {"bit", "(mod 2)", true}, {"(mod 2)", "bit", true},
		{"(single-float 0 1)", "(or (single-float 0 0.99999994) (eql 1.0))", true}, {"(double-float 0 1)", "(or (double-float 0 0.99999994) (eql 1d0))", false}, {"float", "(or single-float double-float)", true}, {"real", "(or integer ratio float)", true}, {"number", "(or real complex)", true}, {"(real 0 0)", "(member 0 0.0 -0.0 0d0 -0d0)", true},
		{"null", "(and list symbol boolean sequence (not cons) atom)", true}, {"list", "sequence", true}, {"string", "(and vector sequence array)", true}, {"(simple-vector 3)", "(array * (3))", true}, {"(array * (3))", "(or (string 3) (bit-vector 3) (simple-vector 3))", true}, {"(vector * 2)", "(array * 1)", true}, {"atom", "(not cons)", true}, {"t", "(or atom (cons * *))", true},
		{"(cons (integer 0 9))", "(or (cons (integer 0 4)) (cons (integer 5 9)))", true}, {"(cons (rational 0 9))", "(or (cons (rational 0 4)) (cons (rational 5 9)))", false}, {"(cons (or bit string) (or bit string))", "(or (cons bit bit) (cons string string))", false}, {"(cons (cons bit bit) bit)", "(or (cons (cons (eql 0)) (eql 0)) (cons (cons (eql 1)) (eql 0)) (cons * (eql 1)))", true},
		{"(cons bit (and string))", "(cons bit (and symbol))", false}, {"(cons bit (or string))", "(cons bit (and string))", true}, {"(cons bit (and))", "(cons bit)", true}, {"(eql :a)", "keyword", true}, {"keyword", "symbol", true}, {"function", "atom", true}, {"(eql 1)", "(eql 1.0)", false}, {"(or)", "(cons nil)", true}, {"(cons nil)", "nil", true}, {"t", "nil", false}, {"nil", "nil", true}, {"t", "t", true},
	} {
		a, b := parsed(t, x.a), parsed(t, x.b)
		is, w, e := types.Subtypep(a, b)
		if e != api.OK || is != x.want || !is && (!isObject(w) || !isOf(w, a) || isOf(w, b)) {
			t.Errorf("Subtypep(%s, %s) = %v, %v, %v", x.a, x.b, is, w, e)
		}
	}
}

// Conses with independent parts in all leaves do not take long.
func TestP14_1SubtypepDeep(t *testing.T) {
	leafAt := func(path int, leaf string) string {
		for range 4 {
			side := "(cons "
			if path&1 == 1 {
				side = "(cons * "
			}
			leaf, path = side+leaf+")", path>>1
		}
		return leaf
	}
	var l []api.Form
	for i := range 6 {
		s := "(or"
		for k := range 5 {
			s += " " + leafAt(5*i+k, []string{"bit", "string", "keyword"}[(5*i+k)/16%3])
		}
		l = append(l, parsed(t, s+")"))
	}
	samples, e := types.Samples(l)
	known := map[string]bool{}
	for _, x := range samples {
		known[answersOf(x, l)] = true
	}
	if e != api.OK || len(known) != 64 {
		t.Errorf("%d kinds of samples, %v", len(known), e)
	}
}

func TestP14_5Integers(t *testing.T) {
	big := strings.Repeat("9", 200)
	for s, want := range map[string]string{
		"(or (mod 5) (eql 9) string)": "0 9", "nil": "", "string": "", "float": "", "t": "* *", "integer": "* *", "fixnum": "-1152921504606846976 1152921504606846975", "bignum": "* *", "(and bignum unsigned-byte)": "1152921504606846976 *", "unsigned-byte": "0 *", "bit": "0 1", "(integer 3)": "3 *", "(integer * 3)": "* 3", "(integer (3) (5))": "4 4", "(integer (3) (4))": "", "(eql 7)": "7 7",
		"(and integer (real 1/2 7/2))": "1 3", "(and integer (real -7/2 -1/2))": "-3 -1", "(real (1/2) (3/2))": "1 1", "(real 0.5 1.5)": "1 1", "(real (1) (3))": "2 2", "(or (integer * -5) (integer 7 *))": "* *", "(or (integer * -5) (member 3 4))": "* 4", "(and (not (integer 0 5)) unsigned-byte)": "6 *", "(not (integer 1))": "* 0", "(not (integer * 1))": "2 *", "(not integer)": "", "(or (member -3 12) ratio)": "-3 12", "(and (integer 0 10) (not (member 0 1 10)))": "2 9", "(cons (integer 1 2))": "", "(not (not (integer -1 1)))": "-1 1",
		"(integer (" + big + "))": "1" + strings.Repeat("0", 200) + " *", "(signed-byte 200)": "-803469022129495137770981046170581301261101496891396417650688 803469022129495137770981046170581301261101496891396417650687",
	} {
		some, lo, hi, e := types.Integers(parsed(t, s))
		got := strings.TrimSpace(lo.Text + " " + hi.Text)
		if e != api.OK || got != want || some != (want != "") {
			t.Errorf("Integers(%s) = %v, %v, %v, %v, not %s", s, some, lo, hi, e, want)
		}
		if some && (lo.Text == "*" && !forms.Equal(lo, lisp("*")) || hi.Text == "*" && !forms.Equal(hi, lisp("*"))) {
			t.Errorf("Integers(%s) = %v, %v", s, lo, hi)
		}
	}
}

// The bounds are of the type, and no integer of it lies beyond them.
func TestP14_5Bounds(t *testing.T) {
	r := source(6)
	for range 2000 {
		a := small(t, r, 3)
		some, lo, hi, e := types.Integers(a)
		if e != api.OK {
			t.Fatalf("Integers(%v): %v", a, e)
		}
		between := list(lisp("INTEGER"), lo, hi)
		if !some {
			between = lisp("NIL")
		}
		rest := types.And([]api.Form{a, lisp("INTEGER"), types.Not(between)})
		if none, w, e := types.Empty(rest); e == api.OK && !none {
			t.Fatalf("Integers(%v) = %v, %v, but %v is of it", a, lo, hi, w)
		}
		for i, x := range []api.Form{lo, hi} {
			if some && x.Kind == api.FormInt && !isOf(x, a) {
				t.Fatalf("Integers(%v) = %v, %v", a, lo, hi)
			}
			for _, far := range []string{"1000000000000000000000000000", "1" + strings.Repeat("0", 150)} {
				if i == 0 {
					far = "-" + far
				}
				if some && forms.Equal(x, lisp("*")) != isOf(whole(far), a) {
					t.Fatalf("Integers(%v) = %v, %v", a, lo, hi)
				}
			}
		}
	}
}

func TestP14_1PlusTimes(t *testing.T) {
	long := strings.Repeat("9", 200)
	half := "1" + strings.Repeat("0", 99)
	for _, x := range []struct{ a, b, plus, times string }{
		{"(mod 3)", "(integer 5 *)", "(integer 5 *)", "(integer 0 *)"}, {"(integer -2 3)", "(integer -1 4)", "(integer -3 7)", "(integer -8 12)"}, {"(integer 2 3)", "(integer 4 5)", "(integer 6 8)", "(integer 8 15)"}, {"(integer -3 -2)", "(integer -5 -4)", "(integer -8 -6)", "(integer 8 15)"}, {"(integer -3 -2)", "(integer 4 5)", "(integer 1 3)", "(integer -15 -8)"},
		{"integer", "(eql 0)", "(integer * *)", "(integer 0 0)"}, {"(eql 0)", "(integer 5)", "(integer 5 *)", "(integer 0 0)"}, {"integer", "(eql 1)", "(integer * *)", "(integer * *)"}, {"(integer 5)", "(integer * 0)", "(integer * *)", "(integer * 0)"}, {"(integer 5)", "(integer * -2)", "(integer * *)", "(integer * -10)"}, {"(integer 5)", "(integer 2)", "(integer 7 *)", "(integer 10 *)"}, {"(integer * -5)", "(integer * -2)", "(integer * -7)", "(integer 10 *)"}, {"(integer * 5)", "(integer * 2)", "(integer * 7)", "(integer * *)"}, {"(integer -1)", "(integer -1)", "(integer -2 *)", "(integer * *)"}, {"(integer 0)", "(integer 0)", "(integer 0 *)", "(integer 0 *)"}, {"(integer 3)", "(integer 0 2)", "(integer 3 *)", "(integer 0 *)"}, {"(integer 3)", "(integer -2 0)", "(integer 1 *)", "(integer * 0)"}, {"integer", "(integer 0 2)", "(integer * *)", "(integer * *)"},
		{"(or (integer * -5) (integer 7))", "(eql 2)", "(integer * *)", "(integer * *)"}, {"(member -3 4)", "(member -5 6)", "(integer -8 10)", "(integer -20 24)"}, {"(or (integer * -1) (eql 0))", "unsigned-byte", "(integer * *)", "(integer * 0)"},
		{"nil", "integer", "nil", "nil"}, {"integer", "(integer 2 1)", "nil", "nil"}, {"nil", "nil", "nil", "nil"}, {"nil", "string", "number", "number"}, {"string", "nil", "number", "number"}, {"float", "integer", "number", "number"}, {"(rational 1 1)", "bit", "(integer 1 2)", "(integer 0 1)"}, {"(rational 1 2)", "bit", "number", "number"}, {"bit", "t", "number", "number"}, {"(and bit string)", "bit", "nil", "nil"}, {"(or bit null)", "bit", "number", "number"},
		{"(eql " + long + ")", "bit", "(integer " + long + " *)", "(integer 0 " + long + ")"}, {"(eql -" + long[1:] + ")", "(eql -1)", "(integer * *)", "(integer " + long[1:] + " " + long[1:] + ")"}, {"(eql " + half + ")", "(eql " + half + ")", "(integer 2" + half[1:] + " 2" + half[1:] + ")", "(integer 1" + strings.Repeat("0", 198) + " 1" + strings.Repeat("0", 198) + ")"}, {"(eql " + half + "0)", "(member " + half + " " + half + "0)", "(integer 11" + half[1:] + " 2" + half[1:] + "0)", "(integer 1" + strings.Repeat("0", 199) + " *)"},
	} {
		a, b := parsed(t, x.a), parsed(t, x.b)
		for _, l := range [][2]api.Form{{a, b}, {b, a}} {
			if got, e := types.Plus(l[0], l[1]); e != api.OK || !forms.Equal(got, parsed(t, x.plus)) {
				t.Errorf("Plus(%s, %s) = %v, %v, not %s", x.a, x.b, got, e, x.plus)
			}
			if got, e := types.Times(l[0], l[1]); e != api.OK || !forms.Equal(got, parsed(t, x.times)) {
				t.Errorf("Times(%s, %s) = %v, %v, not %s", x.a, x.b, got, e, x.times)
			}
		}
	}
}

// The sums and products of small integers of two types have the bounds of Plus and Times.
func TestP14_5Sums(t *testing.T) {
	r := source(7)
	for range 500 {
		bounded := func() (api.Form, []int64) {
			for {
				f := types.And([]api.Form{small(t, r, 2), list(lisp("INTEGER"), whole("-6"), whole("6"))})
				var l []int64
				for n := int64(-6); n <= 6; n++ {
					if isOf(whole(strconv.FormatInt(n, 10)), f) {
						l = append(l, n)
					}
				}
				if types.Check(f) == api.OK {
					return f, l
				}
			}
		}
		a, x := bounded()
		b, y := bounded()
		for _, op := range []struct {
			of   func(a, b api.Form) (api.Form, api.Errno)
			make func(x, y int64) int64
		}{
			{types.Plus, func(x, y int64) int64 { return x + y }}, {types.Times, func(x, y int64) int64 { return x * y }},
		} {
			want := lisp("NIL")
			var least, greatest int64
			for i, n := range x {
				for k, m := range y {
					z := op.make(n, m)
					if i == 0 && k == 0 {
						least, greatest = z, z
					}
					least, greatest = min(least, z), max(greatest, z)
					want = list(lisp("INTEGER"), whole(big.NewInt(least).String()), whole(big.NewInt(greatest).String()))
				}
			}
			if got, e := op.of(a, b); e != api.OK || !forms.Equal(got, want) {
				t.Fatalf("of %v and %v: %v, %v, not %v", a, b, got, e, want)
			}
		}
	}
}

// leastAbove returns the least float of a kind above a number; nil if there is none.
func leastAbove(x *big.Rat, kind int) *big.Rat {
	if kind == api.FormSingle {
		f, _ := x.Float32()
		for r := new(big.Rat); !math.IsInf(float64(f), 0); f = math.Nextafter32(f, float32(math.Inf(1))) {
			if r.SetFloat64(float64(f)).Cmp(x) > 0 {
				return r
			}
		}
		if f < 0 {
			return new(big.Rat).SetFloat64(-math.MaxFloat32)
		}
		return nil
	}
	f, _ := x.Float64()
	for r := new(big.Rat); !math.IsInf(f, 0); f = math.Nextafter(f, math.Inf(1)) {
		if r.SetFloat64(f).Cmp(x) > 0 {
			return r
		}
	}
	return nil
}

// isGapEmpty tells by its definition whether no number of a kind lies between two others, which are none if they are nil.
func isGapEmpty(low, high *big.Rat, kind int) bool {
	if low == nil && high == nil || kind == api.FormRatio {
		return false
	}
	if low == nil { // the other way round
		low, high = new(big.Rat).Neg(high), nil
	}
	var next *big.Rat
	switch kind {
	case api.FormInt:
		floor := new(big.Int).Div(low.Num(), low.Denom())
		next = new(big.Rat).SetInt(floor.Add(floor, big.NewInt(1)))
	default:
		next = leastAbove(low, kind)
	}
	return next == nil || high != nil && next.Cmp(high) >= 0
}

// Between any two bounds the numbers of each kind are found, however few there are.
func TestP14_1Gaps(t *testing.T) {
	cuts := strings.Fields("-1.7976931348623157d308 -1d300 -3.4028235e38 -16777217 -5 -9/2 -4 -1/3 -0.3333333 -1e-45 -4.9d-324 0 4.9d-324 1e-45 0.3333333 1/3 0.33333334 1/2 0.99999994 1 1.0000000000000002d0 1.0000001 1.0000002 3/2 2 5 16777216 16777217 16777218 16777219 3.4028235e38 3.5d38 1d300 1.7976931348623157d308")
	kinds := map[string]int{"integer": api.FormInt, "ratio": api.FormRatio, "single-float": api.FormSingle, "double-float": api.FormDouble}
	check := func(kind, bounds string, want bool) {
		f := parsed(t, "(and "+kind+" (real "+bounds+"))")
		none, w, e := types.Empty(f)
		if none != want || e != api.OK || !none && (!isObject(w) || !isOf(w, f)) {
			t.Errorf("Empty(%v) = %v, %v, %v", f, none, w, e)
		}
	}
	for name, kind := range kinds {
		for i, a := range cuts {
			x := valueOf(parsed(t, a))
			check(name, "* ("+a+")", isGapEmpty(nil, x, kind))
			check(name, "("+a+") *", isGapEmpty(x, nil, kind))
			check(name, a+" "+a, !isPoint(x, kind))
			for _, b := range cuts[i+1:] {
				check(name, "("+a+") ("+b+")", isGapEmpty(x, valueOf(parsed(t, b)), kind))
			}
		}
	}
}

// isPoint reports whether a number is the value of one of a kind.
func isPoint(x *big.Rat, kind int) bool {
	switch kind {
	case api.FormInt:
		return x.IsInt()
	case api.FormRatio:
		return !x.IsInt()
	}
	f, _ := x.Float64()
	if kind == api.FormSingle {
		single, _ := x.Float32()
		f = float64(single)
	}
	return !math.IsInf(f, 0) && new(big.Rat).SetFloat64(f).Cmp(x) == 0
}
