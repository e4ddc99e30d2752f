package types_test

import (
	"slices"
	"strings"
	"testing"

	"commonform/api"
	"commonform/forms"
	"commonform/reader"
	"commonform/types"
)

func leaf(kind int, text string) api.Form { return api.Form{Kind: kind, Text: text} }

func whole(digits string) api.Form { return leaf(api.FormInt, digits) }

// parsed reads a form whose symbols are those of COMMON-LISP.
func parsed(t *testing.T, s string) api.Form {
	t.Helper()
	r, _, e := reader.One(reader.Standard("COMMON-LISP"), s)
	if e != api.OK {
		t.Fatalf("%s: %v", s, e)
	}
	return r.Form
}

func lisp(name string) api.Form { return forms.Symbol("COMMON-LISP", name) }

func list(l ...api.Form) api.Form { return forms.List(l) }

func TestP14_1Check(t *testing.T) {
	for _, s := range []string{
		"t", "nil", "atom", "cons", "null", "list", "symbol", "keyword", "boolean", "number", "real", "rational", "integer", "ratio", "float", "single-float", "double-float", "complex", "bit", "fixnum", "bignum", "unsigned-byte", "character", "string", "bit-vector", "simple-vector", "vector", "array", "sequence", "function", "hash-table",
		"(and)", "(or)", "(and t)", "(or nil t bit)", "(not t)", "(member)", "(member a :b 1 2.0 #C(1 2) #\\a nil t)", "(eql nil)", "(eql p::x)", "(eql -0.0d0)", "(eql *)",
		"(integer)", "(integer 1)", "(integer * 1)", "(integer (1) (2))", "(integer 2 1)", "(rational 1/2 (3))", "(real 1 2.0)", "(float 1/2 1d0)", "(single-float (0))", "(double-float * *)",
		"(unsigned-byte 1)", "(unsigned-byte 200)", "(signed-byte 200)", "(mod 1)", "(mod 1000000000)", "(cons)", "(cons *)", "(cons * *)", "(cons bit (cons))", "(cons (cons (cons (cons cons) cons)))", "(cons (and (cons (not (cons (or (cons)))))))",
		"(string 0)", "(string 50)", "(string *)", "(bit-vector 3)", "(simple-vector *)", "(vector * 3)", "(vector * *)", "(array * *)", "(array * 0)", "(array * 4)", "(array * ())", "(array * (*))", "(array * (0 4 * 1))",
	} {
		if e := types.Check(parsed(t, s)); e != api.OK {
			t.Errorf("Check(%s) = %v", s, e)
		}
	}
	for _, s := range []string{
		"foo", ":integer", "p::t", "1", "\"string\"", "#(and)", "mod", "signed-byte", "*", "and", "member", "(foo)", "(t)", "(nil)", "(symbol)", "(list)", "(bit)", "(null)", "(p::and)", "((and))", "(1)", "(and . t)", "(and t . bit)", "(and 1)", "(or (foo))",
		"(not)", "(not t t)", "(eql)", "(eql 1 2)", "(eql \"a\")", "(eql (1))", "(eql #(1))", "(eql #*1)", "(eql #:x)", "(eql %::closure)", "(member 1 (2))", "(member . 1)",
		"(integer 1 2 3)", "(integer 1.0)", "(integer 1/2)", "(integer (1 2))", "(integer ())", "(integer nil)", "(integer (*))", "(integer ((1)))", "(integer a)", "(rational 1.0)", "(real #C(1 2))", "(real \"1\")", "(float a)", "(single-float (1 . 2))", "(double-float #\\a)", "(integer 1 . 2)",
		"(unsigned-byte)", "(unsigned-byte *)", "(unsigned-byte 0)", "(unsigned-byte 201)", "(signed-byte 0)", "(signed-byte 201)", "(mod 0)", "(mod -1)", "(mod 1000000001)", "(mod 1.0)", "(mod (1))", "(mod 100000000000000000000000)", "(unsigned-byte 1 2)",
		"(cons t t t)", "(cons foo)", "(cons t 1)", "(cons (*))", "(cons (cons (cons (cons (cons)))))", "(cons * (cons * (cons * (cons * (cons)))))", "(cons (and (cons (not (cons (or (cons (cons t))))))))",
		"(string)", "(string \"1\")", "(mod \"3\")", "(array * \"1\")", "(array * (\"1\"))", "(string 51)", "(string -1)", "(string 1 2)", "(string (1))", "(bit-vector)", "(bit-vector a)", "(simple-vector t 1)", "(vector)", "(vector *)", "(vector t 1)", "(vector * 51)", "(vector 1 *)", "(vector * 1 2)", "(array)", "(array *)", "(array t 1)", "(array * 5)", "(array * -1)", "(array * (5))", "(array * (1 2 3 4 5))", "(array * (1 . 2))", "(array * a)", "(array * (a))", "(array * 1 2)",
	} {
		if e := types.Check(parsed(t, s)); e != types.ErrType {
			t.Errorf("Check(%s) = %v", s, e)
		}
	}
}

// Forms that are not right, or too large, are no type specifiers.
func TestP14_1CheckForms(t *testing.T) {
	digits := strings.Repeat("7", 200)
	eql := func(x api.Form) api.Form { return list(lisp("EQL"), x) }
	many := make([]api.Form, 97) // with the list, its name and its tail 100 nodes
	for i := range many {
		many[i] = lisp("BIT")
	}
	kids := lisp("BIT")
	kids.Kids = []api.Form{lisp("BIT")}
	deep := lisp("BIT")
	for range 60000 {
		deep = api.Form{Kind: api.FormCons, Kids: []api.Form{deep, deep}[:1]}
	}
	complex := func(kind int, re, im string) api.Form {
		return api.Form{Kind: api.FormComplex, Kids: []api.Form{leaf(kind, re), leaf(kind, im)}}
	}
	for i, x := range []struct {
		t api.Form
		e api.Errno
	}{
		{eql(whole(digits)), api.OK}, {eql(whole("-" + digits)), types.ErrType}, {list(lisp("INTEGER"), whole(digits+"7")), types.ErrType}, {list(lisp("OR"), lisp("BIT"), eql(whole(digits+"7"))), types.ErrType}, {eql(complex(api.FormInt, digits, "1")), api.OK}, {eql(complex(api.FormInt, digits+"1", "1")), types.ErrType},
		{types.And(many), api.OK}, {types.And(append(many, lisp("BIT"))), types.ErrType}, {kids, types.ErrType}, {deep, types.ErrType}, {api.Form{}, types.ErrType}, {api.Form{Kind: api.FormCons}, types.ErrType}, {leaf(api.FormSymbol, "BIT"), types.ErrType},
		{eql(leaf(api.FormSingle, "7f800000")), types.ErrType}, {eql(leaf(api.FormSingle, "xxx")), types.ErrType}, {eql(complex(api.FormSingle, "3f800000", "7fc00000")), types.ErrType}, {eql(leaf(api.FormRatio, "2000000000000000000000/4000000000000000000002")), types.ErrType}, {eql(leaf(api.FormChar, "ab")), types.ErrType}, {eql(forms.Symbol("P", "\xff")), types.ErrType}, {eql(leaf(api.FormChar, "é")), api.OK},
		{api.Form{Kind: api.FormLabel, Text: "0", Kids: []api.Form{types.And(nil)}}, types.ErrType}, {list(lisp("AND"), api.Form{Kind: api.FormLabel, Text: "0", Kids: []api.Form{lisp("BIT")}}), types.ErrType}, {api.Form{Kind: api.FormCons, Kids: []api.Form{lisp("AND"), lisp("NIL"), lisp("NIL")}}, api.OK}, {api.Form{Kind: api.FormCons, Kids: []api.Form{lisp("AND"), list(lisp("T"))}}, types.ErrType},
	} {
		if e := types.Check(x.t); e != x.e {
			t.Errorf("Check %d = %v, not %v", i, e, x.e)
		}
	}
}

func TestP14_1Typep(t *testing.T) {
	for s, objects := range map[string][2]string{ // those that are of the type, and those that are not
		"t":             {"nil 1 (1) #(1) %::x", ""},
		"nil":           {"", "nil 1 (1)"},
		"atom":          {"nil 1 \"a\" #(1) %::closure #:x", "(1) (1 . 2)"},
		"cons":          {"(1) (1 . 2)", "nil #(1)"},
		"null":          {"nil", "t :nil p::nil (1)"},
		"list":          {"nil (1) (1 . 2)", "t #(1)"},
		"symbol":        {"nil t :a p::b #:c", "%::closure %::x \"a\" #\\a"},
		"keyword":       {":a :nil", "nil p::keyword #:a"},
		"boolean":       {"t nil", ":t p::nil 1"},
		"number":        {"1 1/2 1.0 1d0 #C(1 2)", "\"1\" nil"},
		"real":          {"1 1/2 1.0 1d0", "#C(1 2) #C(1.0 0.0)"},
		"rational":      {"1 1/2", "1.0 #C(1 2)"},
		"integer":       {"1 -100000000000000000000000", "1/2 1.0"},
		"ratio":         {"1/2", "1"},
		"float":         {"1.0 1d0", "1"},
		"single-float":  {"1.0 -0.0", "1d0 1"},
		"double-float":  {"1d0", "1.0"},
		"complex":       {"#C(1 2) #C(1.0 0.0)", "1"},
		"bit":           {"0 1", "2 -1 1.0"},
		"fixnum":        {"1152921504606846975 -1152921504606846976 0", "1152921504606846976 -1152921504606846977 0.0"},
		"bignum":        {"1152921504606846976 -1152921504606846977", "1152921504606846975 -1152921504606846976 1/2"},
		"unsigned-byte": {"0 99999999999999999999999", "-1 0.0"},
		"character":     {"#\\a", "\"a\" a"},
		"string":        {"\"\" \"a\"", "#\\a a #*1"},
		"bit-vector":    {"#* #*01", "#(0 1) \"01\""},
		"simple-vector": {"#() #(1)", "#*1 \"a\" #0A1"},
		"vector":        {"#() #*1 \"a\"", "#0A1 #2A((1)) (1)"},
		"array":         {"#() #*1 \"a\" #0A1 #2A((1))", "(1) nil"},
		"sequence":      {"nil (1) #() #*1 \"a\"", "#0A1 t"},
		"function":      {"%::builtin %::closure", "%::table %::x car :closure"},
		"hash-table":    {"%::table", "%::closure :table table"},

		"(and)": {"1 nil", ""}, "(or)": {"", "1 nil"}, "(and integer (not bit))": {"2", "1 a"}, "(or bit string)": {"1 \"a\"", "2"}, "(not atom)": {"(1)", "1"},
		"(member)": {"", "nil 1"}, "(member 1 a)": {"1 a", "1.0 :a nil"}, "(eql 0.0)": {"0.0", "-0.0 0 0d0"}, "(eql #C(1 2))": {"#C(1 2)", "#C(1.0 2.0) 1"}, "(eql #\\a)": {"#\\a", "#\\A a"}, "(eql nil)": {"nil", "t"},
		"(integer 1 5)": {"1 5", "0 6 1.0 3/2"}, "(integer (1) (5))": {"2 4", "1 5"}, "(integer * 1)": {"1 -99999999999999999999", "2"}, "(integer 1)": {"1 99999999999999999999", "0"}, "(integer)": {"1", "1.0"}, "(integer 3 2)": {"", "2 3"}, "(rational 1/3 (2))": {"1/3 1 3/2", "2 1/4 1.0"},
		"(real 1/3 1)": {"1/3 1 1.0 1d0 0.33333334", "0.33333333d0 0 #C(1 2)"}, "(float 1 (2))": {"1.0 1d0 1.9999999", "1 2.0 2d0"}, "(single-float (0) 1/3)": {"0.3333333", "0.33333334 -0.0 0.0 0.1d0"}, "(double-float 1.5)": {"1.5d0", "1.5 1d0"}, "(single-float 0 0)": {"0.0 -0.0", "0 1.0"}, "(real -0.0 0)": {"0.0 -0.0 0 0d0", "1e-45 -1e-45"},
		"(unsigned-byte 3)": {"0 7", "-1 8"}, "(signed-byte 3)": {"-4 3", "-5 4"}, "(mod 3)": {"0 2", "3 -1"}, "(signed-byte 1)": {"-1 0", "1 -2"}, "(mod 1)": {"0", "1"}, "(unsigned-byte 64)": {"18446744073709551615", "18446744073709551616 -1"},
		"(cons)": {"(1)", "nil"}, "(cons bit)": {"(1) (0 . 3)", "(2) ((1))"}, "(cons * bit)": {"(2 . 1)", "(1)"}, "(cons bit null)": {"(1)", "(1 2) (1 . 1)"}, "(cons bit (cons string))": {"(1 \"a\") (0 \"\" . 3)", "(1) (1 . \"a\") (1 2)"}, "(cons (cons bit) (cons * (cons t null)))": {"((1) 2 3) ((0 5) nil nil)", "((1) 2) ((1) 2 . 3) ((2) 2 3) ((1) 2 3 4)"},
		"(string 2)": {"\"ab\" \"éé\"", "\"a\" #*01 #(1 2)"}, "(string *)": {"\"\" \"ab\"", "#\\a"}, "(bit-vector 0)": {"#*", "#*1 #() \"\""}, "(simple-vector 1)": {"#(1)", "#() #*1"}, "(vector * 2)": {"\"ab\" #*01 #(1 2)", "(1 2) #() #2A((1)(2))"}, "(vector * *)": {"\"\" #*", "nil #0A1"},
		"(array * *)": {"\"\" #0A1", "nil"}, "(array * 0)": {"#0A1", "#() #2A()"}, "(array * ())": {"#0A1", "#() #2A()"}, "(array * 1)": {"#() \"ab\" #*", "#0A1 #2A()"}, "(array * (2))": {"\"ab\" #*01 #(1 2)", "\"a\" #2A((1)(2))"}, "(array * (*))": {"\"\" #(1)", "#0A1"}, "(array * 2)": {"#2A() #2A((1 2))", "#(1) #3A()"}, "(array * (1 *))": {"#2A((1 2)) #2A(())", "#2A((1)(2)) #3A(((1)))"}, "(array * (* 2 *))": {"#3A(((1) (2)))", "#3A(((1)))"},
	} {
		for i, l := range objects {
			inside, ok := forms.Items(parsed(t, "("+l+")"))
			if !ok {
				t.Fatal(l)
			}
			for _, x := range inside {
				if got, e := types.Typep(x, parsed(t, s)); got != (i == 0) || e != api.OK {
					t.Errorf("Typep(%v, %s) = %v, %v", x, s, got, e)
				}
			}
		}
	}
}

// wrongObjects are the errors of objects.
func wrongObjects() map[api.Errno][]api.Form {
	label := api.Form{Kind: api.FormLabel, Text: "0", Kids: []api.Form{list(lisp("A"))}}
	ref := api.Form{Kind: api.FormRef, Text: "0"}
	return map[api.Errno][]api.Form{
		api.ErrSize:    {{Kind: api.FormVector, Kids: make([]api.Form, 2000)}},
		api.ErrForm:    {{}, leaf(api.FormInt, "01"), label, list(label, ref), leaf(api.FormSingle, "7f800000"), list(leaf(api.FormDouble, "fff0000000000000")), leaf(api.FormInt, strings.Repeat("7", 20001)), leaf(api.FormRatio, "2000000000000000000000/4000000000000000000002")},
		forms.ErrLabel: {ref, list(ref, label)},
	}
}

func TestP14_1Errors(t *testing.T) {
	wrong, x := lisp("FOO"), lisp("NIL")
	for e, l := range wrongObjects() {
		for i, x := range l {
			if is, got := types.Typep(x, wrong); is || got != e {
				t.Errorf("Typep of %d: %v, not %v", i, got, e)
			}
			if of, got := types.Of(x); !forms.Equal(of, api.Form{}) || got != e {
				t.Errorf("Of %d: %v, %v, not %v", i, of, got, e)
			}
		}
	}
	if is, e := types.Typep(x, wrong); is || e != types.ErrType {
		t.Errorf("Typep: %v, %v", is, e)
	}
	for _, l := range [][2]api.Form{{wrong, lisp("T")}, {lisp("T"), wrong}} {
		is, w, e1 := types.Subtypep(l[0], l[1])
		y, e2 := types.Plus(l[0], l[1])
		z, e3 := types.Times(l[0], l[1])
		s, e4 := types.Samples(l[:])
		if is || e1 != types.ErrType || e2 != types.ErrType || e3 != types.ErrType || e4 != types.ErrType || len(s) > 0 || !forms.Equal(w, api.Form{}) || !forms.Equal(y, api.Form{}) || !forms.Equal(z, api.Form{}) {
			t.Errorf("with a wrong type: %v, %v; %v, %v; %v, %v; %v, %v", is, e1, y, e2, z, e3, s, e4)
		}
	}
	is, w, e := types.Empty(wrong)
	some, lo, hi, f := types.Integers(wrong)
	if is || some || e != types.ErrType || f != types.ErrType || !forms.Equal(w, api.Form{}) || !forms.Equal(lo, api.Form{}) || !forms.Equal(hi, api.Form{}) {
		t.Errorf("of a wrong type: %v, %v, %v; %v, %v, %v, %v", is, w, e, some, lo, hi, f)
	}
	for n, e := range map[int]api.Errno{0: api.OK, 6: api.OK, 7: api.ErrSize} {
		if l, got := types.Samples(slices.Repeat([]api.Form{lisp("T")}, n)); got != e || (len(l) > 0) != (e == api.OK) {
			t.Errorf("Samples of %d types: %v, %v", n, l, got)
		}
	}
	if l, e := types.Samples(slices.Repeat([]api.Form{wrong}, 7)); len(l) > 0 || e != api.ErrSize {
		t.Errorf("Samples of too many wrong types: %v, %v", l, e)
	}
}

func TestP14_1Code(t *testing.T) {
	if types.ErrType != 160 {
		t.Error(types.ErrType)
	}
}

func TestP14_1Lists(t *testing.T) {
	a, b := lisp("A"), leaf(99, "x")
	for i, x := range [][2]api.Form{
		{types.And(nil), list(lisp("AND"))}, {types.And([]api.Form{a, b}), list(lisp("AND"), a, b)}, {types.Or(nil), list(lisp("OR"))}, {types.Or([]api.Form{b}), list(lisp("OR"), b)}, {types.Not(b), list(lisp("NOT"), b)},
	} {
		if !forms.Equal(x[0], x[1]) {
			t.Errorf("%d: %v, not %v", i, x[0], x[1])
		}
	}
	inner := list(a)
	out := []api.Form{types.And([]api.Form{inner, inner}), types.Or([]api.Form{inner}), types.Not(inner)}
	for i := range out {
		out[i].Kids[1].Kids[0].Text = "B"
	}
	if inner.Kids[0].Text != "A" || out[0].Kids[2].Kids[0].Text != "A" {
		t.Error("a list shares the memory of a part")
	}
}

func TestP14_4Of(t *testing.T) {
	long := "\"" + strings.Repeat("a", 51) + "\""
	digits := strings.Repeat("7", 200)
	for s, want := range map[string]string{
		"nil": "(eql nil)", "p::x": "(eql p::x)", ":k": "(eql :k)", "1": "(eql 1)", "-1/2": "(eql -1/2)", "-0.0": "(eql -0.0)", "1d0": "(eql 1d0)", "#C(1 2)": "(eql #C(1 2))", "#\\a": "(eql #\\a)", "#:x": "symbol",
		"%::builtin": "function", "%::closure": "function", "%::table": "hash-table", "%::x": "atom", "%::function": "atom",
		"(1 . 2)": "(cons (eql 1) (eql 2))", "(1)": "(cons (eql 1) (eql nil))", "(1 \"a\" . #:x)": "(cons (eql 1) (cons (string 1) symbol))", "((1) 2)": "(cons (cons (eql 1) (eql nil)) (cons (eql 2) (eql nil)))",
		"(1 2 3 4)": "(cons (eql 1) (cons (eql 2) (cons (eql 3) (cons (eql 4) (eql nil)))))", "(1 2 3 4 5)": "(cons (eql 1) (cons (eql 2) (cons (eql 3) (cons (eql 4) cons))))", "(((((1)))))": "(cons (cons (cons (cons cons (eql nil)) (eql nil)) (eql nil)) (eql nil))",
		"\"\"": "(string 0)", "\"éé\"": "(string 2)", long: "string", "#*101": "(bit-vector 3)", "#()": "(simple-vector 0)", "#((1) 2)": "(simple-vector 2)",
		"#0A1": "(array * ())", "#2A((1 2))": "(array * (1 2))", "#2A(() ())": "(array * (2 0))", "#4A((((1))))": "(array * (1 1 1 1))", "#5A(((((1)))))": "array", "#2A((1 2 3 4 5))": "array", "#2A((1) (2) (3) (4) (5))": "array",
		digits: "(eql " + digits + ")", digits + "7": "t", "(1 " + digits + "7)": "t", "#C(1 " + digits + "7)": "t", "(((((" + digits + "7)))))": "(cons (cons (cons (cons cons (eql nil)) (eql nil)) (eql nil)) (eql nil))",
	} {
		got, e := types.Of(parsed(t, s))
		if e != api.OK || !forms.Equal(got, parsed(t, want)) {
			t.Errorf("Of(%s) = %v, %v, not %s", s, got, e, want)
		}
	}
}

// tree returns conses around 16 objects, none deeper than another one.
func tree(l []api.Form) api.Form {
	if len(l) == 1 {
		return l[0]
	}
	half := len(l) / 2
	return forms.Dotted([]api.Form{tree(l[:half])}, tree(l[half:]))
}

// The 15 conses have 45 nodes; the types of the leaves have 1, 4 and 6.
func TestP14_4OfLarge(t *testing.T) {
	for i, x := range []struct {
		homeless, pairs int
		isT             bool
	}{{16, 0, false}, {3, 0, false}, {2, 0, true}, {4, 2, true}, {5, 2, false}} {
		l := slices.Repeat([]api.Form{forms.Symbol("", "x")}, x.homeless)
		l = append(l, slices.Repeat([]api.Form{parsed(t, "#C(1 2)")}, x.pairs)...)
		l = append(l, slices.Repeat([]api.Form{whole("1")}, 16-len(l))...)
		f := tree(l)
		got, e := types.Of(f)
		nodes, _ := forms.Size(got)
		if is, _ := types.Typep(f, got); e != api.OK || !is || forms.Equal(got, lisp("T")) != x.isT || !x.isT && nodes != 45+x.homeless+6*x.pairs+4*(16-x.homeless-x.pairs) {
			t.Errorf("%d: Of a tree: %d nodes, %v", i, nodes, e)
		}
	}
}
