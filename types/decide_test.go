package types_test

import (
	"math/big"
	"math/rand/v2"
	"slices"
	"strconv"
	"strings"
	"testing"
	"unicode/utf8"

	"commonform/api"
	"commonform/forms"
	"commonform/number"
	"commonform/types"
)

func source(seed uint64) *rand.Rand { return rand.New(rand.NewPCG(seed, 14)) }

func pick[T any](r *rand.Rand, l ...T) T { return l[r.IntN(len(l))] }

// values has the values of real numbers that were asked for, by their kinds and texts.
var values = map[string]*big.Rat{}

// valueOf returns the value of a real number.
func valueOf(x api.Form) *big.Rat {
	key := strconv.Itoa(x.Kind) + " " + x.Text
	if values[key] == nil {
		f, _ := number.Rational(x)
		values[key], _ = new(big.Rat).SetString(f.Text)
	}
	return values[key]
}

// isWithin tells by its definition whether a number is between two bounds.
func isWithin(x api.Form, bounds []api.Form) bool {
	for i, b := range bounds {
		if b.Kind == api.FormSymbol {
			continue
		}
		isOpen := b.Kind == api.FormCons
		if isOpen {
			b = b.Kids[0]
		}
		c := valueOf(x).Cmp(valueOf(b))
		if i == 1 {
			c = -c
		}
		if c < 0 || c == 0 && isOpen {
			return false
		}
	}
	return true
}

func dimensionsOf(x api.Form) []int {
	switch x.Kind {
	case api.FormString:
		return []int{utf8.RuneCountInString(x.Text)}
	case api.FormBits:
		return []int{len(x.Text)}
	case api.FormVector:
		return []int{len(x.Kids)}
	}
	var out []int
	for _, s := range strings.Fields(x.Text) {
		n, _ := strconv.Atoi(s)
		out = append(out, n)
	}
	return out
}

func isOneOf(n int, l ...int) bool { return slices.Contains(l, n) }

// isNamed tells by its definition whether an object is of a type with a name.
func isNamed(x api.Form, name string) bool {
	isOpaque := x.Kind == api.FormSymbol && x.Home == "%"
	isWhole := func(low, high string) bool {
		return x.Kind == api.FormInt && isWithin(x, []api.Form{whole(low), whole(high)})
	}
	switch name {
	case "T":
		return true
	case "NIL":
		return false
	case "ATOM":
		return x.Kind != api.FormCons
	case "CONS":
		return x.Kind == api.FormCons
	case "NULL":
		return forms.IsNil(x)
	case "LIST":
		return forms.IsNil(x) || x.Kind == api.FormCons
	case "SYMBOL":
		return x.Kind == api.FormSymbol && !isOpaque
	case "KEYWORD":
		return x.Kind == api.FormSymbol && x.Home == "KEYWORD"
	case "BOOLEAN":
		return forms.IsNil(x) || forms.Is(x, "COMMON-LISP", "T")
	case "NUMBER":
		return forms.Number(x)
	case "REAL":
		return forms.Number(x) && x.Kind != api.FormComplex
	case "RATIONAL":
		return isOneOf(x.Kind, api.FormInt, api.FormRatio)
	case "INTEGER":
		return x.Kind == api.FormInt
	case "RATIO":
		return x.Kind == api.FormRatio
	case "FLOAT":
		return isOneOf(x.Kind, api.FormSingle, api.FormDouble)
	case "SINGLE-FLOAT":
		return x.Kind == api.FormSingle
	case "DOUBLE-FLOAT":
		return x.Kind == api.FormDouble
	case "COMPLEX":
		return x.Kind == api.FormComplex
	case "BIT":
		return isWhole("0", "1")
	case "FIXNUM":
		return isWhole("-1152921504606846976", "1152921504606846975")
	case "BIGNUM":
		return x.Kind == api.FormInt && !isNamed(x, "FIXNUM")
	case "UNSIGNED-BYTE":
		return x.Kind == api.FormInt && x.Text[0] != '-'
	case "CHARACTER":
		return x.Kind == api.FormChar
	case "STRING":
		return x.Kind == api.FormString
	case "BIT-VECTOR":
		return x.Kind == api.FormBits
	case "SIMPLE-VECTOR":
		return x.Kind == api.FormVector
	case "VECTOR":
		return isOneOf(x.Kind, api.FormString, api.FormBits, api.FormVector)
	case "ARRAY":
		return isOneOf(x.Kind, api.FormString, api.FormBits, api.FormVector, api.FormArray)
	case "SEQUENCE":
		return isNamed(x, "LIST") || isNamed(x, "VECTOR")
	case "FUNCTION":
		return isOpaque && (x.Text == "BUILTIN" || x.Text == "CLOSURE")
	case "HASH-TABLE":
		return isOpaque && x.Text == "TABLE"
	}
	panic(name)
}

// isOf tells by its definition whether an object is of a type.
func isOf(x, t api.Form) bool {
	if t.Kind == api.FormSymbol {
		return t.Text == "*" || isNamed(x, t.Text)
	}
	l := t.Kids[1 : len(t.Kids)-1]
	is := func(t api.Form) bool { return isOf(x, t) }
	switch name := t.Kids[0].Text; name {
	case "AND":
		return !slices.ContainsFunc(l, func(t api.Form) bool { return !is(t) })
	case "OR":
		return slices.ContainsFunc(l, is)
	case "NOT":
		return !is(l[0])
	case "MEMBER", "EQL":
		return slices.ContainsFunc(l, func(y api.Form) bool { return forms.Equal(x, y) })
	case "INTEGER", "RATIONAL", "REAL", "FLOAT", "SINGLE-FLOAT", "DOUBLE-FLOAT":
		return isNamed(x, name) && isWithin(x, l)
	case "UNSIGNED-BYTE", "SIGNED-BYTE", "MOD":
		return x.Kind == api.FormInt && isOfSize(valueOf(x).Num(), name, l[0].Text)
	case "CONS":
		l = append(slices.Clone(l), lisp("*"), lisp("*"))
		return x.Kind == api.FormCons && isOf(x.Kids[0], l[0]) && isOf(forms.Dotted(x.Kids[1:len(x.Kids)-1], x.Kids[len(x.Kids)-1]), l[1])
	case "STRING", "BIT-VECTOR", "SIMPLE-VECTOR":
		return isNamed(x, name) && isShaped(x, l[:1])
	case "VECTOR":
		return isNamed(x, name) && isShaped(x, l[1:2])
	}
	if !isNamed(x, "ARRAY") {
		return false
	}
	if l[1].Kind == api.FormCons || forms.IsNil(l[1]) {
		dims, _ := forms.Items(l[1])
		return isShaped(x, dims)
	}
	return l[1].Text == "*" || l[1].Text == strconv.Itoa(len(dimensionsOf(x)))
}

func isOfSize(x *big.Int, name, size string) bool {
	n, _ := strconv.Atoi(size)
	low, high := new(big.Int), big.NewInt(int64(n))
	switch name {
	case "UNSIGNED-BYTE":
		high.Lsh(big.NewInt(1), uint(n))
	case "SIGNED-BYTE":
		high.Lsh(big.NewInt(1), uint(n-1))
		low.Neg(high)
	}
	return x.Cmp(low) >= 0 && x.Cmp(high) < 0
}

func isShaped(x api.Form, dims []api.Form) bool {
	return slices.EqualFunc(dimensionsOf(x), dims, func(d int, want api.Form) bool { return want.Text == "*" || want.Text == strconv.Itoa(d) })
}

// universe returns objects that tell the types of anyType apart.
func universe(t *testing.T) []api.Form {
	var out []api.Form
	for _, s := range []string{
		"nil t p::x p::y :x :y :z #:g %::builtin %::closure %::table %::x", "#C(1 2) #C(0 1) #C(1.0 2.0) #C(1d0 2d0)", "#\\a #\\b #\\c",
		"1152921504606846975 1152921504606846976 -1152921504606846976 -1152921504606846977 7 8 -8 -9 15 16 99999999999999999999999 -99999999999999999999999",
		"1/3 1/2 2/3 -1/2 -1/3 3/2 4/3 5/2 7/2 -3/2 -5/2 9/2 -9/2 1/99999 -1/99999 99999999999999999/2 -99999999999999999/2",
		"0.0 -0.0 0d0 -0d0 0.5 0.5d0 1.5 1.5d0 -1.5 -1.5d0 2.5 2.5d0 3.5d0 1e-45 -1e-45 4.9d-324 -4.9d-324 3.4028235e38 -3.4028235e38 1.7976931348623157d308 -1.7976931348623157d308 0.33333334 0.3333333 0.3333333333333333d0 0.33333333333333337d0",
		"0.99999994 1.0000001 0.9999999999999999d0 1.0000000000000002d0 1.9999999 2.0000002 0.50000006 0.49999997",
		"\"\" \"a\" \"ab\" \"abc\" \"abcd\" #* #*0 #*01 #*011 #() #(1) #(1 2) #(1 2 3) #(1 2 3 4)", "#0A1 #2A() #2A((1)) #2A((1 2)) #2A((1) (2)) #2A((1 2) (3 4)) #2A(()) #2A((1 2 3)) #3A() #3A(((1))) #3A(((1) (2))) #3A((())) #4A() #4A((((1)))) #5A()",
	} {
		l, _ := forms.Items(parsed(t, "("+s+")"))
		out = append(out, l...)
	}
	for n := range 11 {
		i := strconv.Itoa(n - 5)
		out = append(out, whole(i), parsed(t, i+".0"), parsed(t, i+"d0"))
	}
	atoms := slices.Clone(out)
	var some []api.Form
	for i := 0; i < len(atoms); i += 4 {
		some = append(some, atoms[i])
	}
	for _, x := range some {
		for _, y := range some {
			out = append(out, forms.Dotted([]api.Form{x}, y))
		}
	}
	r := source(99)
	var any func(depth int) api.Form
	any = func(depth int) api.Form {
		if depth == 0 || r.IntN(4) == 0 {
			return pick(r, atoms...)
		}
		return forms.Dotted([]api.Form{any(depth - 1)}, any(depth-1))
	}
	for range 400 {
		out = append(out, any(3))
	}
	return out
}

func anyBound(r *rand.Rand, kinds ...string) string {
	s := pick(r, kinds...)
	switch r.IntN(4) {
	case 0:
		return "(" + s + ")"
	case 1:
		return "*"
	}
	return s
}

// anyLeaf returns a type without parts.
func anyLeaf(r *rand.Rand) string {
	names := []string{"t", "nil", "atom", "cons", "null", "list", "symbol", "keyword", "boolean", "number", "real", "rational", "integer", "ratio", "float", "single-float", "double-float", "complex", "bit", "fixnum", "bignum", "unsigned-byte", "character", "string", "bit-vector", "simple-vector", "vector", "array", "sequence", "function", "hash-table"}
	wholes := []string{"-4", "-2", "-1", "0", "1", "2", "3", "5"}
	rationals := append([]string{"1/3", "1/2", "-3/2", "5/2"}, wholes...)
	reals := append([]string{"0.5", "1.0", "-0.0", "1.5d0", "2d0", "1.0000001"}, rationals...)
	size := func(l ...string) string { return pick(r, l...) }
	switch r.IntN(14) {
	case 0, 1, 2:
		return pick(r, names...)
	case 3:
		return "(eql " + pick(r, append([]string{"nil", "t", "p::x", ":x", "#\\a", "#C(1 2)", "#C(1.0 2.0)", "0.0", "-0.0", "0d0"}, reals...)...) + ")"
	case 4:
		return "(member " + pick(r, reals...) + " " + pick(r, "nil", ":x", ":y", "p::y", "#\\b", "#C(0 1)") + ")"
	case 5:
		return "(integer " + anyBound(r, wholes...) + " " + anyBound(r, wholes...) + ")"
	case 6:
		return "(rational " + anyBound(r, rationals...) + " " + anyBound(r, rationals...) + ")"
	case 7, 8:
		return "(" + pick(r, "real", "float", "single-float", "double-float") + " " + anyBound(r, reals...) + " " + anyBound(r, reals...) + ")"
	case 9:
		return "(" + pick(r, "unsigned-byte", "signed-byte", "mod") + " " + size("1", "2", "3", "4") + ")"
	case 10:
		return "(" + pick(r, "string", "bit-vector", "simple-vector") + " " + size("*", "0", "1", "2", "3") + ")"
	case 11:
		return "(vector * " + size("*", "0", "1", "2") + ")"
	case 12:
		return "(array * " + size("*", "0", "1", "2", "3", "4", "()", "(*)", "(0)", "(2)") + ")"
	}
	return "(array * (" + size("0", "1", "2", "*") + " " + size("0", "1", "2", "*") + size("", "", " *", " 1") + "))"
}

// anyType returns a type with parts in some depth, and at most as many CONS inside of one another.
func anyType(r *rand.Rand, depth, nesting int) string {
	if depth == 0 || r.IntN(5) == 0 {
		return anyLeaf(r)
	}
	part := func() string { return anyType(r, depth-1, nesting) }
	switch r.IntN(7) {
	case 0, 1:
		return "(and " + part() + " " + part() + ")"
	case 2, 3:
		return "(or " + part() + " " + part() + pick(r, "", " "+part()) + ")"
	case 4:
		return "(not " + part() + ")"
	}
	if nesting == 0 {
		return anyLeaf(r)
	}
	nesting--
	return pick(r, "(cons "+part()+")", "(cons * "+part()+")", "(cons "+part()+" "+part()+")")
}

// small returns a type that is a specifier.
func small(t *testing.T, r *rand.Rand, depth int) api.Form {
	for {
		f := parsed(t, anyType(r, depth, 4))
		if types.Check(f) == api.OK {
			return f
		}
	}
}

// isObject reports whether a form is a right object.
func isObject(x api.Form) bool {
	_, e := types.Of(x)
	return e == api.OK
}

// P14.1 to P14.3: what is decided agrees with all objects, by the definitions of the types.
func TestP14_3Subtypep(t *testing.T) {
	r, all := source(1), universe(t)
	parts, others := 0, 0
	for range 3000 {
		a, b := small(t, r, 3), small(t, r, 3)
		if r.IntN(3) == 0 {
			b = types.Or([]api.Form{b, a})
			if r.IntN(2) == 0 {
				b = types.Or([]api.Form{b, types.And([]api.Form{small(t, r, 1), a})})
			}
		}
		if types.Check(b) != api.OK {
			continue
		}
		is, w, e := types.Subtypep(a, b)
		if e != api.OK {
			t.Fatalf("Subtypep(%v, %v): %v", a, b, e)
		}
		if !is {
			others++
			if !isObject(w) || !isOf(w, a) || isOf(w, b) {
				t.Fatalf("Subtypep(%v, %v) has the witness %v", a, b, w)
			}
			continue
		}
		parts++
		for _, x := range all {
			if isOf(x, a) && !isOf(x, b) {
				t.Fatalf("Subtypep(%v, %v) is refuted by %v", a, b, x)
			}
		}
		if !forms.Equal(w, api.Form{}) {
			t.Fatalf("Subtypep(%v, %v) has the witness %v", a, b, w)
		}
	}
	if parts < 500 || others < 500 {
		t.Errorf("%d parts, %d others", parts, others)
	}
}

func TestP14_2Typep(t *testing.T) {
	r, all := source(2), universe(t)
	for range 60 {
		a, b := small(t, r, 3), small(t, r, 2)
		for _, x := range all {
			is, e := types.Typep(x, a)
			other, _ := types.Typep(x, b)
			if e != api.OK || is != isOf(x, a) {
				t.Fatalf("Typep(%v, %v) = %v, %v", x, a, is, e)
			}
			if r.IntN(20) > 0 {
				continue
			}
			for _, c := range []struct {
				t    api.Form
				want bool
			}{{types.And([]api.Form{a, b}), is && other}, {types.Or([]api.Form{a, b}), is || other}, {types.Not(a), !is}} {
				if got, e := types.Typep(x, c.t); got != c.want && e == api.OK {
					t.Fatalf("Typep(%v, %v) = %v", x, c.t, got)
				}
			}
		}
	}
}

func TestP14_2Order(t *testing.T) {
	r := source(3)
	isPart := func(a, b api.Form) bool {
		is, _, e := types.Subtypep(a, b)
		if e != api.OK {
			t.Fatalf("Subtypep(%v, %v): %v", a, b, e)
		}
		return is
	}
	for range 1000 {
		a, b, c := small(t, r, 2), small(t, r, 2), small(t, r, 2)
		if !isPart(a, a) || !isPart(lisp("NIL"), a) || !isPart(a, lisp("T")) || isPart(a, b) && isPart(b, c) && !isPart(a, c) {
			t.Fatalf("%v, %v, %v are out of order", a, b, c)
		}
		rest := types.And([]api.Form{a, types.Not(b)})
		if types.Check(rest) != api.OK {
			continue
		}
		none, w, e := types.Empty(rest)
		if e != api.OK || none != isPart(a, b) || none != isPart(rest, lisp("NIL")) {
			t.Fatalf("Empty(%v) = %v, %v", rest, none, e)
		}
		if none && !forms.Equal(w, api.Form{}) || !none && (!isObject(w) || !isOf(w, rest)) {
			t.Fatalf("Empty(%v) has the witness %v", rest, w)
		}
	}
}

// answersOf tells which types an object is of.
func answersOf(x api.Form, l []api.Form) string {
	out := ""
	for _, t := range l {
		out += strconv.FormatBool(isOf(x, t)) + " "
	}
	return out
}

// Two types that are made of some are different exactly if an object answers otherwise to these: there is a sample for each answer.
func TestP14_1Samples(t *testing.T) {
	r, all := source(4), universe(t)
	for range 400 {
		var l []api.Form
		for range r.IntN(7) {
			l = append(l, small(t, r, 2))
		}
		samples, e := types.Samples(l)
		if e != api.OK {
			t.Fatalf("Samples(%v): %v", l, e)
		}
		known := map[string]bool{}
		for _, x := range samples {
			if !isObject(x) {
				t.Fatalf("the sample %v", x)
			}
			known[answersOf(x, l)] = true
		}
		for _, x := range all {
			if !known[answersOf(x, l)] {
				t.Fatalf("no sample of %v is like %v", l, x)
			}
		}
	}
}

func TestP14_4AnyOf(t *testing.T) {
	r, all := source(5), universe(t)
	for _, x := range all {
		of, e := types.Of(x)
		if is, f := types.Typep(x, of); e != api.OK || f != api.OK || !is || !isOf(x, of) {
			t.Fatalf("Of(%v) = %v, %v", x, of, e)
		}
		b := small(t, r, 2)
		eql := list(lisp("EQL"), x)
		if types.Check(eql) != api.OK {
			continue
		}
		if is, _, e := types.Subtypep(eql, b); e != api.OK || is != isOf(x, b) {
			t.Fatalf("Subtypep(%v, %v) = %v, %v", eql, b, is, e)
		}
	}
}

func TestP14_6Names(t *testing.T) {
	names := []string{"CONS", "SYMBOL", "INTEGER", "RATIO", "SINGLE-FLOAT", "DOUBLE-FLOAT", "COMPLEX", "CHARACTER", "ARRAY", "FUNCTION", "HASH-TABLE"}
	for _, x := range universe(t) {
		n := 0
		for _, s := range names {
			if is, e := types.Typep(x, lisp(s)); is && e == api.OK {
				n++
			}
		}
		if n > 1 || n == 0 && !forms.Is(x, "%", "X") {
			t.Errorf("%v is of %d types", x, n)
		}
	}
	for i, a := range names {
		for _, b := range names[:i] {
			if none, w, e := types.Empty(types.And([]api.Form{lisp(a), lisp(b)})); !none || e != api.OK {
				t.Errorf("%v is of %s and of %s", w, a, b)
			}
		}
	}
}
