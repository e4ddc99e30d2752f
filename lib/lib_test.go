package lib_test

import (
	"strings"
	"testing"

	"commonform/api"
	"commonform/forms"
	"commonform/heap"
	"commonform/lib"
	"commonform/printer"
	"commonform/reader"
)

func newWorld(t *testing.T) *lib.World {
	t.Helper()
	w, e := lib.New(api.MaxWords, 1000)
	if e != api.OK {
		t.Fatal(e)
	}
	return w
}

// read reads a form in COMMON-LISP-USER.
func read(t *testing.T, s string) api.Form {
	t.Helper()
	r, _, e := reader.One(reader.Standard("COMMON-LISP-USER"), s)
	if e != api.OK {
		t.Fatalf("%s: %v", s, e)
	}
	return r.Form
}

func build(t *testing.T, w *lib.World, s string) heap.Word {
	t.Helper()
	x, e := w.Build(read(t, s))
	if e != api.OK {
		t.Fatalf("Build(%s): %v", s, e)
	}
	return x
}

func symbol(t *testing.T, w *lib.World, home, name string) heap.Word {
	t.Helper()
	x, e := w.Symbol(home, name)
	if e != api.OK {
		t.Fatalf("Symbol(%s, %s): %v", home, name, e)
	}
	return x
}

func fix(n int64) heap.Word {
	x, _ := heap.Fix(n)
	return x
}

// shown returns the texts of words.
func shown(t *testing.T, w *lib.World, l ...heap.Word) string {
	t.Helper()
	var out []string
	for _, x := range l {
		f, e := w.Show(x)
		s := "error " + e.Error()
		if e == api.OK {
			s, e = printer.Text(f, true)
			if e != api.OK {
				t.Fatal(f, e)
			}
		}
		out = append(out, s)
	}
	return strings.Join(out, " ")
}

// told returns the text of an answer.
func told(t *testing.T, w *lib.World, a lib.Answer) string {
	t.Helper()
	switch a.Kind {
	case lib.AnswerValues:
		return shown(t, w, a.Values...)
	case lib.AnswerFault:
		return strings.TrimSuffix("! "+strings.ToLower(a.Fault.Type)+" "+shown(t, w, a.Fault.Data...), " ")
	case lib.AnswerNext:
		return "next " + shown(t, w, append([]heap.Word{a.Function}, a.Values...)...)
	}
	return "limit " + a.Code.Error()
}

// called calls the function that the first element of a list names with all others.
func called(t *testing.T, w *lib.World, s string) string {
	t.Helper()
	l := build(t, w, s)
	var words []heap.Word
	for w.Heap().Kind(l) == heap.KindCons {
		x, _ := w.Heap().Get(l, 0)
		words = append(words, x)
		l, _ = w.Heap().Get(l, 1)
	}
	return told(t, w, w.Call(words[0], words[1:]))
}

// testCalls makes calls in one new world.
func testCalls(t *testing.T, pairs ...string) {
	t.Helper()
	w := newWorld(t)
	for i := 0; i < len(pairs); i += 2 {
		if got := called(t, w, pairs[i]); got != pairs[i+1] {
			t.Errorf("%s = %s, want %s", pairs[i], got, pairs[i+1])
		}
	}
}

func TestP20_1Conses(t *testing.T) {
	testCalls(t,
		"(cons 1 (2))", "(1 2)",
		"(cons 1 2)", "(1 . 2)",
		"(cons 1)", "! program-error cons",
		"(cons 1 2 3)", "! program-error cons",
		"(car (1 . 2))", "1",
		"(car nil)", "nil",
		"(car 1)", "! type-error 1 list",
		"(car \"a\")", "! type-error \"a\" list",
		"(car)", "! program-error car",
		"(cdr (1 . 2))", "2",
		"(cdr nil)", "nil",
		"(cdr #(1))", "! type-error #(1) list",
		"(rplaca (1 . 2) 3)", "(3 . 2)",
		"(rplacd (1 . 2) 3)", "(1 . 3)",
		"(rplaca nil 3)", "! type-error nil cons",
		"(rplacd 5 3)", "! type-error 5 cons",
		"(list)", "nil",
		"(list 1 nil (2))", "(1 nil (2))",
		"(list* 1)", "1",
		"(list* 1 2)", "(1 . 2)",
		"(list* 1 2 (3))", "(1 2 3)",
		"(list*)", "! program-error list*",
		"(consp (1))", "t", "(consp nil)", "nil", "(consp 1)", "nil",
		"(atom (1))", "nil", "(atom nil)", "t", "(atom 1)", "t",
		"(listp (1 . 2))", "t", "(listp nil)", "t", "(listp #(1))", "nil",
		"(null nil)", "t", "(null (nil))", "nil", "(null 0)", "nil",
		"(not nil)", "t", "(not t)", "nil", "(not 0)", "nil",
		"(append)", "nil",
		"(append 5)", "5",
		"(append (1 2) 3)", "(1 2 . 3)",
		"(append (1 2) nil (3) (4 . 5))", "(1 2 3 4 . 5)",
		"(append nil nil)", "nil",
		"(append (1) 2 3)", "! type-error 2 list",
		"(append (1 . 2) 3 4)", "! type-error (1 . 2) list",
		"(append #1=(1 . #1#) 4)", "! type-error #0=(1 . #0#) list",
		"(reverse nil)", "nil",
		"(reverse (1 2 3))", "(3 2 1)",
		"(reverse (1 2 . 3))", "! type-error (1 2 . 3) list",
		"(reverse \"ab\")", "! type-error \"ab\" list",
		"(nth 0 (1 2))", "1",
		"(nth 1 (1 2))", "2",
		"(nth 2 (1 2))", "nil",
		"(nth 0 nil)", "nil",
		"(nth 1 (1 . 2))", "! type-error 2 list",
		"(nth 2 (1 . 2))", "! type-error 2 list",
		"(nth 9999 #1=(1 2 . #1#))", "2",
		"(nth 10001 #1=(1 2 . #1#))", "1",
		"(nth 10000000000000000000000001 #1=(1 2 . #1#))", "1",
		"(nth -1 (1))", "! type-error -1 unsigned-byte",
		"(nth 1.0 (1))", "! type-error 1.0 unsigned-byte",
		"(nth -1 5)", "! type-error -1 unsigned-byte",
		"(nth 0 5)", "! type-error 5 list",
		"(nthcdr 0 (1 2))", "(1 2)",
		"(nthcdr 1 (1 2))", "(2)",
		"(nthcdr 1 (1 . 2))", "2",
		"(nthcdr 2 (1 . 2))", "! type-error 2 list",
		"(nthcdr 5 (1 2))", "nil",
		"(nthcdr -10000000000000000000000001 nil)", "! type-error -10000000000000000000000001 unsigned-byte",
		"(last nil)", "nil",
		"(last (1 2 3))", "(3)",
		"(last (1 2 . 3))", "(2 . 3)",
		"(last (1))", "(1)",
		"(last #1=(1 2 . #1#))", "! type-error #0=(1 2 . #0#) list",
		"(last 5)", "! type-error 5 list",
		"(length nil)", "0",
		"(length (1 2 3))", "3",
		"(length \"aé€\")", "3",
		"(length #*0110)", "4",
		"(length #(1 2))", "2",
		"(length #2a((1)))", "! type-error #2A((1)) sequence",
		"(length (1 . 2))", "! type-error (1 . 2) sequence",
		"(length #1=(1 . #1#))", "! type-error #0=(1 . #0#) sequence",
		"(length a)", "! type-error a sequence",
		"(member 2 (1 2 3))", "(2 3)",
		"(member 2.0 (1 2 3))", "nil",
		"(member 10000000000000000000000001 (10000000000000000000000001))", "(10000000000000000000000001)",
		"(member \"a\" (\"a\"))", "nil",
		"(member nil (1 nil))", "(nil)",
		"(member 1 nil)", "nil",
		"(member 1 (1 . 2))", "! type-error (1 . 2) list",
		"(assoc 2 ((1 . a) nil (2 . b) (2 . c)))", "(2 . b)",
		"(assoc 3 ((1 . a)))", "nil",
		"(assoc nil (nil (nil . 1)))", "(nil . 1)",
		"(assoc 1 (5 (1 . a)))", "! type-error 5 list",
		"(assoc 1 ((1 . a) 5))", "(1 . a)",
		"(assoc 1 ((2 . a) #(1)))", "! type-error #(1) list",
		"(assoc 1 ((1 . a) . 5))", "! type-error ((1 . a) . 5) list",
		"(copy-list (1 (2) 3))", "(1 (2) 3)",
		"(copy-list nil)", "nil",
		"(copy-list (1 . 2))", "! type-error (1 . 2) list",
		"(copy-list #1=(1 . #1#))", "! type-error #0=(1 . #0#) list",
	)
}

func TestP20_1Kinds(t *testing.T) {
	testCalls(t,
		"(eq a a)", "t", "(eq 1 1)", "t", "(eq \"a\" \"a\")", "nil", "(eq #1=\"a\" #1#)", "t", "(eq #\\a #\\a)", "t", "(eq 1.5 1.5)", "nil", "(eq 1)", "! program-error eq",
		"(eql 1.5 1.5)", "t", "(eql 1 1.0)", "nil", "(eql \"a\" \"a\")", "nil", "(eql #c(1 2) #c(1 2))", "t", "(eql 0.0 -0.0)", "nil",
		"(equal \"a\" \"a\")", "t", "(equal \"a\" \"A\")", "nil", "(equal (1 \"x\") (1 \"x\"))", "t", "(equal #(1) #(1))", "nil", "(equal #*10 #*10)", "t", "(equal #1=(1 . #1#) #2=(1 1 . #2#))", "t",
		"(equalp \"a\" \"A\")", "t", "(equalp 1 1.0)", "t", "(equalp #(1) #(1.0))", "t", "(equalp #2a((1)) #2a((1)))", "t", "(equalp \"a\" #(#\\A))", "t", "(equalp 1 2)", "nil",
		"(symbolp a)", "t", "(symbolp nil)", "t", "(symbolp #:a)", "t", "(symbolp \"a\")", "nil",
		"(keywordp :a)", "t", "(keywordp a)", "nil", "(keywordp \"a\")", "nil",
	)
	kinds := []string{"1", "10000000000000000000000001", "1/2", "1.5", "1.5d0", "#c(1 2)", "#\\a", "\"a\"", "#*1", "#(1)", "#2a((1))", "(1)", "nil", "a", ":a"}
	for _, x := range []struct{ name, want string }{
		{"NUMBERP", "1111110000000000"},
		{"INTEGERP", "1100000000000000"},
		{"RATIONALP", "1110000000000000"},
		{"REALP", "1111100000000000"},
		{"FLOATP", "0001100000000000"},
		{"COMPLEXP", "0000010000000000"},
		{"CHARACTERP", "0000001000000000"},
		{"STRINGP", "0000000100000000"},
		{"BIT-VECTOR-P", "0000000010000000"},
		{"VECTORP", "0000000111000000"},
		{"ARRAYP", "0000000111100000"},
		{"FUNCTIONP", "0000000000000000"},
		{"HASH-TABLE-P", "0000000000000000"},
		{"SYMBOLP", "0000000000001110"},
		{"CONSP", "0000000000010000"},
	} {
		w := newWorld(t)
		for i, kind := range kinds {
			want := map[byte]string{'0': "nil", '1': "t"}[x.want[i]]
			if got := called(t, w, "("+x.name+" "+kind+")"); got != want {
				t.Errorf("(%s %s) = %s", x.name, kind, got)
			}
		}
		for _, args := range []string{"", "1 2"} {
			if got := called(t, w, "("+x.name+" "+args+")"); got != "! program-error "+strings.ToLower(x.name) {
				t.Errorf("(%s %s) = %s", x.name, args, got)
			}
		}
	}
}

func TestP20_1KindsOfObjects(t *testing.T) {
	w := newWorld(t)
	h := w.Heap()
	car, _ := w.Function(symbol(t, w, "COMMON-LISP", "CAR"))
	closure, _ := h.New(heap.KindClosure, 2)
	code, _ := h.New(heap.KindCode, 2)
	table := w.Call(symbol(t, w, "COMMON-LISP", "MAKE-HASH-TABLE"), []heap.Word{symbol(t, w, "COMMON-LISP", "EQ")}).Values[0]
	box, _ := h.New(heap.KindBox, 1)
	for _, x := range []struct {
		name string
		word heap.Word
		want string
	}{
		{"FUNCTIONP", car, "t"}, {"FUNCTIONP", closure, "t"}, {"FUNCTIONP", code, "t"}, {"FUNCTIONP", table, "nil"}, {"FUNCTIONP", box, "nil"},
		{"HASH-TABLE-P", table, "t"}, {"HASH-TABLE-P", box, "nil"}, {"SYMBOLP", heap.Unbound, "nil"}, {"ATOM", heap.Unbound, "t"},
	} {
		if got := told(t, w, w.Call(symbol(t, w, "COMMON-LISP", x.name), []heap.Word{x.word})); got != x.want {
			t.Errorf("%s of an object of the kind %d = %s", x.name, h.Kind(x.word), got)
		}
	}
}

func TestP20_1Numbers(t *testing.T) {
	testCalls(t,
		"(+)", "0", "(+ 5)", "5", "(+ 1 2 3/2)", "9/2", "(+ 1 2.0)", "3.0", "(+ -0.0)", "0.0", "(+ #c(1 2) #c(1 -2))", "2", "(+ 1152921504606846975 1)", "1152921504606846976", "(+ -1152921504606846976 -1)", "-1152921504606846977", "(+ 1152921504606846976 -1)", "1152921504606846975",
		"(+ 1 a)", "! type-error a number", "(+ a b)", "! type-error a number", "(+ 1 \"2\")", "! type-error \"2\" number",
		"(+ 3.0e38 3.0e38)", "! arithmetic-error",
		"(*)", "1", "(* 5)", "5", "(* 2 1/2)", "1", "(* 2 #c(0 1))", "#C(0 2)", "(* 1.0e38 1.0e38)", "! arithmetic-error",
		"(-)", "! program-error -", "(- 5)", "-5", "(- 0.0)", "-0.0", "(- 5 1 2)", "2", "(- 1 #c(0 1))", "#C(1 -1)", "(- nil)", "! type-error nil number",
		"(/)", "! program-error /", "(/ 2)", "1/2", "(/ 6 2 2)", "3/2", "(/ 1 0)", "! division-by-zero", "(/ 0)", "! division-by-zero", "(/ 1.0 0)", "! division-by-zero", "(/ 1 #c(0 1))", "#C(0 -1)",
		"(= 1)", "t", "(= 1 1.0 1)", "t", "(= 1 2 1)", "nil", "(= 1 1 2)", "nil", "(= #c(1 2) #c(1.0 2.0))", "t", "(=)", "! program-error =", "(= 1 a)", "! type-error a number", "(= 1 2 a)", "! type-error a number",
		"(/= 1)", "t", "(/= 1 2 3)", "t", "(/= 1 2 1)", "nil", "(/= 1 1.0)", "nil", "(/= 1 2 3 2)", "nil",
		"(< 1)", "t", "(< 1 2 3)", "t", "(< 1 2 2)", "nil", "(< 1/3 0.3333334)", "t", "(< 1 #c(1 2))", "! type-error #C(1 2) real", "(< a)", "! type-error a real", "(<)", "! program-error <",
		"(<= 1 2 2)", "t", "(<= 2 1)", "nil", "(> 3 2 1)", "t", "(> 3 3)", "nil", "(>= 3 3 1)", "t", "(>= 1 2)", "nil",
		"(max 1)", "1", "(max 1 3.0 3 2)", "3.0", "(max 1 3 3.0)", "3", "(max 1 #c(1 2))", "! type-error #C(1 2) real", "(max)", "! program-error max",
		"(min 2 1 1.0)", "1", "(min 2 1.0 1)", "1.0", "(min 1/2)", "1/2",
		"(abs -5)", "5", "(abs -1/2)", "1/2", "(abs -0.0)", "0.0", "(abs #c(3 4))", "! type-error #C(3 4) real",
		"(floor -7 2)", "-4 1", "(floor 7)", "7 0", "(floor 7/2)", "3 1/2", "(floor -3.5)", "-4 0.5", "(floor 1 0)", "! division-by-zero", "(floor 1 0.0)", "! division-by-zero", "(floor 1 #c(1 2))", "! type-error #C(1 2) real", "(floor)", "! program-error floor", "(floor 1 2 3)", "! program-error floor",
		"(ceiling -7 2)", "-3 -1", "(ceiling 7/2)", "4 -1/2", "(truncate -7 2)", "-3 -1", "(truncate 7.5)", "7 0.5", "(round 7 2)", "4 -1", "(round 5 2)", "2 1", "(round -5/2)", "-2 -1/2",
		"(mod -7 2)", "1", "(mod 7 -2)", "-1", "(mod 7.5 2)", "1.5", "(mod 1 0)", "! division-by-zero", "(mod 1)", "! program-error mod",
		"(rem -7 2)", "-1", "(rem 7 -2)", "1", "(rem 1 0)", "! division-by-zero", "(rem 1 a)", "! type-error a real",
		"(gcd)", "0", "(gcd 12 -18)", "6", "(gcd 1.0)", "! type-error 1.0 integer", "(lcm)", "1", "(lcm 4 6)", "12", "(lcm 4 0)", "0", "(lcm 1/2)", "! type-error 1/2 integer",
		"(logand)", "-1", "(logand 12 10)", "8", "(logand -1 5)", "5", "(logior)", "0", "(logior 12 10)", "14", "(logxor)", "0", "(logxor 12 10)", "6", "(logxor 5)", "5", "(logand 1 1.0)", "! type-error 1.0 integer",
		"(lognot 0)", "-1", "(lognot -5)", "4", "(lognot 1152921504606846975)", "-1152921504606846976", "(lognot 1/2)", "! type-error 1/2 integer",
		"(ash 1 70)", "1180591620717411303424", "(ash -5 -1)", "-3", "(ash 5 -100000)", "0", "(ash -5 -100000)", "-1", "(ash -5 -10000000000000000000000001)", "-1", "(ash 1 100000)", "! arithmetic-error", "(ash 0 100000)", "0", "(ash 0 10000000000000000000000001)", "0", "(ash 1 10000000000000000000000001)", "! arithmetic-error", "(ash 1 65536)", "! arithmetic-error", "(ash 0 65537)", "0", "(ash 1 1.0)", "! type-error 1.0 integer",
		"(expt 2 70)", "1180591620717411303424", "(expt 2 -2)", "1/4", "(expt 0 0)", "1", "(expt 0 -1)", "! division-by-zero", "(expt 1 4096)", "1", "(expt 1 -4096)", "1", "(ash 5 -65536)", "0", "(ash -5 -65536)", "-1", "(ash 0 65536)", "0", "(expt 1 4097)", "! arithmetic-error", "(expt 1 -4097)", "! arithmetic-error", "(expt 1 10000000000000000000000001)", "! arithmetic-error", "(expt 1.5 2)", "2.25", "(expt #c(0 1) 2)", "-1", "(expt 100000000000 4096)", "! arithmetic-error", "(expt 2 1/2)", "! type-error 1/2 integer",
		"(numerator -6/4)", "-3", "(numerator 5)", "5", "(numerator 1.0)", "! type-error 1.0 rational", "(denominator 6/4)", "2", "(denominator 5)", "1", "(denominator #c(1 2))", "! type-error #C(1 2) rational",
		"(complex 1)", "1", "(complex 1 2)", "#C(1 2)", "(complex 1.5)", "#C(1.5 0.0)", "(complex 1 0)", "1", "(complex #c(1 2))", "! type-error #C(1 2) real", "(complex 1 2 3)", "! program-error complex",
		"(realpart #c(1 2))", "1", "(realpart 5)", "5", "(imagpart #c(1 2))", "2", "(imagpart 5)", "0", "(imagpart 1.5)", "0.0", "(realpart nil)", "! type-error nil number",
		"(rational 0.5)", "1/2", "(rational 5)", "5", "(rational #c(1 2))", "! type-error #C(1 2) real", "(rationalize 0.5)", "1/2", "(rationalize 5/2)", "5/2",
		"(float 1)", "1.0", "(float 1/2)", "0.5", "(float 1.5d0)", "1.5d0", "(float 1 1.0d0)", "1.0d0", "(float 1.5d0 1.0)", "1.5", "(float 1.5d0 2)", "1.5d0", "(float 1 2)", "1.0", "(float #c(1 2))", "! type-error #C(1 2) real", "(float 1 #c(1 2))", "! type-error #C(1 2) real", "(float 1"+strings.Repeat("0", 40)+")", "! arithmetic-error",
	)
}

func TestP20_1Symbols(t *testing.T) {
	testCalls(t,
		"(symbol-name car)", "\"CAR\"", "(symbol-name #:|a b|)", "\"a b\"", "(symbol-name \"a\")", "! type-error \"a\" symbol", "(symbol-name nil)", "\"NIL\"",
		"(symbol-package car)", "\"COMMON-LISP\"", "(symbol-package x)", "\"COMMON-LISP-USER\"", "(symbol-package :x)", "\"KEYWORD\"", "(symbol-package #:x)", "nil", "(symbol-package 5)", "! type-error 5 symbol",
		"(symbol-value x)", "! unbound-variable x", "(set x 5)", "5", "(symbol-value x)", "5", "(boundp x)", "t", "(makunbound x)", "x", "(boundp x)", "nil", "(symbol-value x)", "! unbound-variable x",
		"(symbol-value :k)", ":k", "(symbol-value nil)", "nil", "(symbol-value t)", "t", "(boundp :k)", "t", "(boundp 5)", "! type-error 5 symbol",
		"(set car 5)", "5", "(symbol-value car)", "5", "(set nil 5)", "! program-error nil", "(set t 5)", "! program-error t", "(set :k :k)", "! program-error :k", "(set 5 5)", "! type-error 5 symbol", "(makunbound nil)", "! program-error nil", "(makunbound :k)", "! program-error :k",
		"(symbol-function car)", "%::builtin", "(symbol-function x)", "! undefined-function x", "(fboundp car)", "t", "(fboundp x)", "nil",
		"(%fset x car)", "%::builtin", "(x (1))", "1", "(fboundp x)", "t", "(%fset x y)", "! undefined-function y", "(x (1))", "1", "(%fset x 5)", "! type-error 5 function", "(%fset 5 car)", "! type-error 5 symbol", "(fmakunbound x)", "x", "(x (1))", "! undefined-function x", "(fmakunbound x)", "x", "(%fset nil car)", "%::builtin", "(nil (1))", "1", "(fmakunbound nil)", "nil", "(nil)", "! undefined-function nil",
		"(symbol-plist x)", "nil", "(%set-plist x (a 1))", "(a 1)", "(symbol-plist x)", "(a 1)", "(%set-plist t 5)", "5", "(symbol-plist t)", "5", "(%set-plist \"x\" 5)", "! type-error \"x\" symbol",
		"(intern \"CAR\")", "car :inherited", "(intern \"NEW\")", "new nil", "(intern \"NEW\")", "new :internal", "(intern \"NEW\" \"KEYWORD\")", ":new nil", "(intern \"NEW\" \"KEYWORD\")", ":new :external", "(intern \"CAR\" \"CL\")", "car :external", "(intern \"CAR\" \"KEYWORD\")", ":car nil", "(intern \"\" \"CL-USER\")", "|| nil",
		"(intern \"A\" \"NOWHERE\")", "! package-error \"NOWHERE\"", "(intern \""+strings.Repeat("A", 61)+"\")", "! package-error \"COMMON-LISP-USER\"", "(intern \"A\" \""+strings.Repeat("A", 61)+"\")", "! package-error \""+strings.Repeat("A", 61)+"\"", "(intern a)", "! type-error a string", "(intern \"A\" a)", "! type-error a string", "(intern)", "! program-error intern", "(intern \"A\" \"CL\" 1)", "! program-error intern",
		"(find-symbol \"CAR\")", "car :inherited", "(find-symbol \"OTHER\")", "nil nil", "(find-symbol \"OTHER\")", "nil nil", "(find-symbol \"NEW\")", "new :internal", "(find-symbol \"NIL\")", "nil :inherited", "(find-symbol \"CAR\" \"COMMON-LISP\")", "car :external", "(find-symbol \"A\" \"NOWHERE\")", "! package-error \"NOWHERE\"",
		"(make-symbol \"X\")", "#:x", "(make-symbol \""+strings.Repeat("A", 61)+"\")", "! package-error \""+strings.Repeat("A", 61)+"\"", "(make-symbol \""+strings.Repeat("A", 60)+"\")", "#:"+strings.Repeat("a", 60), "(make-symbol x)", "! type-error x string",
		"(gensym)", "#:g0", "(gensym \"V\")", "#:v1", "(gensym \""+strings.Repeat("A", 60)+"\")", "! package-error \""+strings.Repeat("A", 60)+"\"", "(gensym 5)", "! type-error 5 string", "(gensym)", "#:g2",
	)
}

func TestP20_1Texts(t *testing.T) {
	testCalls(t,
		"(char-code #\\a)", "97", "(char-code #\\U1F600)", "128512", "(char-code \"a\")", "! type-error \"a\" character",
		"(code-char 97)", "#\\a", "(code-char 55295)", "#\\"+string(rune(55295)), "(code-char 55296)", "nil", "(code-char 57343)", "nil", "(code-char 57344)", "#\\"+string(rune(57344)), "(code-char 1114111)", "#\\"+string(rune(1114111)), "(code-char 1114112)", "nil", "(code-char 10000000000000000000000001)", "nil", "(code-char -1)", "! type-error -1 unsigned-byte",
		"(char-upcase #\\a)", "#\\A", "(char-upcase #\\z)", "#\\Z", "(char-upcase #\\A)", "#\\A", "(char-upcase #\\{)", "#\\{", "(char-upcase #\\é)", "#\\é", "(char-upcase #\\`)", "#\\`",
		"(char-downcase #\\A)", "#\\a", "(char-downcase #\\Z)", "#\\z", "(char-downcase #\\[)", "#\\[", "(char-downcase #\\@)", "#\\@", "(char-downcase 5)", "! type-error 5 character",
		"(char \"aé\" 1)", "#\\é", "(char \"a\" 1)", "! type-error 1 integer", "(char \"\" 0)", "! type-error 0 integer", "(char \"a\" -1)", "! type-error -1 unsigned-byte", "(char #(1) 0)", "! type-error #(1) string", "(char \"a\" 10000000000000000000000001)", "! type-error 10000000000000000000000001 integer",
		"(string= \"a\" \"a\")", "t", "(string= \"a\" \"A\")", "nil", "(string= \"\" \"\")", "t", "(string= \"a\" \"ab\")", "nil", "(string= \"a\" a)", "! type-error a string",
		"(string< \"ab\" \"abc\")", "2", "(string< \"abc\" \"ab\")", "nil", "(string< \"ab\" \"ab\")", "nil", "(string< \"aéb\" \"aéc\")", "2", "(string< \"b\" \"ab\")", "nil", "(string< \"\" \"a\")", "0", "(string< \"\" \"\")", "nil", "(string< \"é\" \"z\")", "nil", "(string< a \"b\")", "! type-error a string",
		"(concat)", "\"\"", "(concat \"a\" \"\" \"bc\")", "\"abc\"", "(concat \"a\" #\\b)", "! type-error #\\b string",
		"(subseq \"héllo\" 1 3)", "\"él\"", "(subseq \"abc\" 1)", "\"bc\"", "(subseq \"abc\" 3)", "\"\"", "(subseq \"abc\" 4)", "! type-error 4 integer", "(subseq \"abc\" 1 4)", "! type-error 4 integer", "(subseq \"abc\" 2 1)", "! type-error 1 integer", "(subseq \"abc\" 4 5)", "! type-error 4 integer", "(subseq \"abc\" 2 2)", "\"\"",
		"(subseq (1 2 3) 1)", "(2 3)", "(subseq (1 2 3) 1 2)", "(2)", "(subseq nil 0)", "nil", "(subseq nil 0 0)", "nil", "(subseq nil 1)", "! type-error 1 integer", "(subseq #(1 2 3) 1)", "#(2 3)", "(subseq #*0110 1 3)", "#*11", "(subseq (1 . 2) 0)", "! type-error (1 . 2) sequence", "(subseq \"a\" -1)", "! type-error -1 unsigned-byte", "(subseq \"a\" 0 1.0)", "! type-error 1.0 unsigned-byte", "(subseq \"a\" 10000000000000000000000001)", "! type-error 10000000000000000000000001 integer", "(subseq \"a\" 0 10000000000000000000000001)", "! type-error 10000000000000000000000001 integer",
		"(string \"a\")", "\"a\"", "(string ab)", "\"AB\"", "(string #\\é)", "\"é\"", "(string 5)", "! type-error 5 string", "(string nil)", "\"NIL\"",
	)
}

func TestP20_1Arrays(t *testing.T) {
	testCalls(t,
		"(vector)", "#()", "(vector 1 (2))", "#(1 (2))",
		"(make-array 2)", "#(nil nil)", "(make-array 2 x)", "#(x x)", "(make-array 0)", "#()", "(make-array (2))", "#(nil nil)", "(make-array (1 2) 5)", "#2A((5 5))", "(make-array nil 5)", "#0A5", "(make-array (2 0))", "#2A(() ())",
		"(make-array -1)", "! type-error -1 list", "(make-array a)", "! type-error a list", "(make-array (1 . 2))", "! type-error (1 . 2) list", "(make-array (1 -2))", "! type-error (1 -2) list", "(make-array (1 a))", "! type-error (1 a) list", "(make-array 1.0)", "! type-error 1.0 list", "(make-array \"a\")", "! type-error \"a\" list", "(make-array #1=(1 . #1#))", "! type-error #0=(1 . #0#) list",
		"(make-array 16384)", "error 4", "(make-array (128 128))", "error 4", "(make-array 16385)", "limit 11", "(make-array (200 100))", "limit 11", "(make-array (1 1 1 1 1 1 1 1))", "limit 11", "(make-array 10000000000000000000000001)", "limit 11", "(make-array (10000000000000000000000001 10000000000000000000000001))", "limit 11", "(make-array (1000000000000000 1000000000000000 1000000000000000 1000000000000000))", "limit 11", "(make-array (1 1 1 1 1 1 2))", "#7A(((((((nil nil)))))))", "(make-array)", "! program-error make-array", "(make-array 1 2 3)", "! program-error make-array",
		"(aref #(1 2) 1)", "2", "(aref #2a((1 2) (3 4)) 1 0)", "3", "(aref #0a5)", "5", "(aref \"aé\" 1)", "#\\é", "(aref #*01 1)", "1", "(aref #*01 0)", "0", "(aref #(1 2))", "! program-error aref", "(aref #(1 2) 0 0)", "! program-error aref", "(aref #2a((1)) 0)", "! program-error aref", "(aref #(1 2) 2)", "! type-error 2 integer", "(aref #2a((1 2)) 1 5)", "! type-error 1 integer", "(aref #2a((1 2)) 0 2)", "! type-error 2 integer", "(aref #(1) -1)", "! type-error -1 unsigned-byte", "(aref (1) 0)", "! type-error (1) array", "(aref)", "! program-error aref", "(aref #(1) 10000000000000000000000001)", "! type-error 10000000000000000000000001 integer", "(aref #2a(()) 0 0)", "! type-error 0 integer",
		"(%aset #(1 2) 1 x)", "x", "(%aset #0a5 6)", "6", "(%aset #2a((1 2)) 0 1 y)", "y", "(%aset \"ab\" 0 #\\x)", "! type-error \"ab\" array", "(%aset \"ab\" 7 5 #\\x)", "! type-error \"ab\" array", "(%aset #*01 0 1)", "! type-error #*01 array", "(%aset #(1) 1)", "! program-error %aset", "(%aset #(1))", "! program-error %aset", "(%aset #(1) 1 2)", "! type-error 1 integer", "(%aset #(1) a 2)", "! type-error a unsigned-byte", "(%aset nil 0 2)", "! type-error nil array",
		"(array-dimensions #2a((1 2)))", "(1 2)", "(array-dimensions #(1 2))", "(2)", "(array-dimensions \"aé\")", "(2)", "(array-dimensions #*101)", "(3)", "(array-dimensions #0a1)", "nil", "(array-dimensions nil)", "! type-error nil array",
		"(array-rank #2a((1 2)))", "2", "(array-rank \"a\")", "1", "(array-rank #0a1)", "0", "(array-rank 1)", "! type-error 1 array",
		"(make-hash-table equal)", "%::table", "(make-hash-table :eq)", "%::table", "(make-hash-table #:eql)", "%::table", "(make-hash-table car)", "! type-error car function", "(make-hash-table \"EQ\")", "! type-error \"EQ\" symbol", "(make-hash-table)", "! program-error make-hash-table",
		"(gethash 1 2)", "! type-error 2 hash-table", "(%puthash 1 2 3)", "! type-error 2 hash-table", "(remhash 1 2)", "! type-error 2 hash-table", "(clrhash 2)", "! type-error 2 hash-table", "(hash-table-count nil)", "! type-error nil hash-table", "(hash-keys x)", "! type-error x hash-table",
	)
}

func TestP20_1Tables(t *testing.T) {
	w := newWorld(t)
	call := func(name string, args ...heap.Word) lib.Answer {
		return w.Call(symbol(t, w, "COMMON-LISP", name), args)
	}
	for _, x := range []struct {
		test string
		same bool // whether two equal strings are one key
	}{{"EQ", false}, {"EQL", false}, {"EQUAL", true}, {"EQUALP", true}} {
		h := call("MAKE-HASH-TABLE", symbol(t, w, "COMMON-LISP", x.test)).Values[0]
		a, b := build(t, w, "\"a\""), build(t, w, "\"a\"")
		if got := told(t, w, call("%PUTHASH", a, h, fix(1))); got != "1" {
			t.Errorf("%%PUTHASH = %s", got)
		}
		call("%PUTHASH", fix(7), h, heap.Nil)
		call("%PUTHASH", a, h, fix(2))
		want := map[bool]string{true: "2 t", false: "nil nil"}[x.same]
		if got := told(t, w, call("GETHASH", b, h)); got != want {
			t.Errorf("GETHASH with the test %s = %s", x.test, got)
		}
		if got := told(t, w, call("GETHASH", fix(7), h, fix(9))); got != "nil t" {
			t.Errorf("GETHASH of a key with the value NIL = %s", got)
		}
		if got := told(t, w, call("GETHASH", fix(8), h, fix(9))); got != "9 nil" {
			t.Errorf("GETHASH of what is no key = %s", got)
		}
		if got := told(t, w, call("HASH-KEYS", h)) + told(t, w, call("HASH-TABLE-COUNT", h)); got != "(\"a\" 7)2" {
			t.Errorf("HASH-KEYS and HASH-TABLE-COUNT = %s", got)
		}
		if got := told(t, w, call("REMHASH", a, h)) + told(t, w, call("REMHASH", a, h)) + told(t, w, call("HASH-KEYS", h)); got != "tnil(7)" {
			t.Errorf("REMHASH twice = %s", got)
		}
		if got := call("CLRHASH", h); len(got.Values) != 1 || got.Values[0] != h || told(t, w, call("HASH-TABLE-COUNT", h)) != "0" {
			t.Errorf("CLRHASH = %v", got)
		}
	}
	fake, _ := w.Heap().New(heap.KindTable, 1)
	if got := told(t, w, call("GETHASH", fake, fake)); got != "! type-error %::table hash-table" {
		t.Errorf("GETHASH in what is no table: %s", got)
	}
}

func TestP20_1Others(t *testing.T) {
	long := "(" + strings.Repeat("1 ", 900) + ")"
	testCalls(t,
		"(typep 1 cl::bit)", "t", "(typep 2 cl::bit)", "nil", "(typep (1 . 2) (cons cl::bit (integer 2)))", "t", "(typep nil null)", "t", "(typep 1 foo)", "! simple-error foo", "(typep 1 (cons 1))", "! simple-error (cons 1)", "(typep 1 5)", "! simple-error 5", "(typep 1)", "! program-error typep", "(typep 1 t 2)", "! program-error typep",
		"(typep #1=(1 . #1#) cons)", "t", "(typep #1=(1 . #1#) (cons integer))", "nil", "(typep (#1=(a) #1#) (cons (cons symbol)))", "nil", "(typep (#1=(a) #1#) (not null))", "t", "(typep #1=#(#1#) vector)", "nil", "(typep #1=#(#1#) atom)", "t", "(typep #1=(1 . #1#) symbol)", "nil", "(typep 1 #1=(or #1#))", "! simple-error #0=(or #0#)", "(typep car symbol)", "t",
		"(subtypep cl::bit integer)", "t t", "(subtypep integer cl::bit)", "nil t", "(subtypep foo bar)", "! simple-error foo", "(subtypep t bar)", "! simple-error bar", "(subtypep nil nil)", "t t", "(subtypep t)", "! program-error subtypep",
		"(funcall car (1))", "1", "(funcall car)", "! program-error car", "(funcall nowhere 1)", "! undefined-function nowhere", "(funcall 5)", "! type-error 5 function", "(funcall)", "! program-error funcall", "(funcall funcall car (1))", "1", "(funcall apply list (1 2))", "(1 2)", "(funcall values 1 2)", "1 2",
		"(apply + 1 (2 2))", "5", "(apply + nil)", "0", "(apply list 1 2 nil)", "(1 2)", "(apply list 1 2)", "! type-error 2 list", "(apply list (1 . 2))", "! type-error (1 . 2) list", "(apply list #1=(1 . #1#))", "! type-error #0=(1 . #0#) list", "(apply list)", "! program-error apply", "(apply nowhere 5)", "! undefined-function nowhere", "(apply 5 (1))", "! type-error 5 function", "(apply apply list 1 ((2)))", "(1 2)", "(apply car (1 2))", "! program-error car",
		"(values)", "", "(values 1 nil)", "1 nil", "(identity 5)", "5", "(identity)", "! program-error identity",
		"(prin1-to-string \"a\\\"b\")", "\"\\\"a\\\\\\\"b\\\"\"", "(princ-to-string \"a\\\"b\")", "\"a\\\"b\"", "(prin1-to-string (car |x| :k #:g u #\\a))", "\"(car |x| :k #:g u #\\\\a)\"", "(princ-to-string #1=(a . #1#))", "\"#0=(a . #0#)\"", "(prin1-to-string)", "! program-error prin1-to-string",
		"(read-from-string \"(1 . 2)\")", "(1 . 2)", "(read-from-string \"car\")", "car", "(read-from-string \"#1=(a . #1#)\")", "#0=(a . #0#)", "(read-from-string \"(\")", "! parse-error \"(\"", "(read-from-string \"\")", "! parse-error \"\"", "(read-from-string \"1 2\")", "! parse-error \"1 2\"", "(read-from-string \"nowhere:x\")", "! parse-error \"nowhere:x\"", "(read-from-string \""+strings.Repeat("a", 61)+"\")", "! parse-error \""+strings.Repeat("a", 61)+"\"", "(read-from-string a)", "! type-error a string",
		"(format nil \"~A and ~S\" \"x\" \"y\")", "\"x and \\\"y\\\"\"", "(format nil \"~D\")", "! simple-error \"~D\"", "(format nil \"~\")", "! simple-error \"~\"", "(format nil a)", "! type-error a string", "(format nil)", "! program-error format", "(format nil \"~A\" "+long+")", "\""+strings.TrimSuffix(long, " )")+")\"", "(format nil \"~{~A~}\" (1 2))", "\"12\"",
	)
}

func TestP20_1Printing(t *testing.T) {
	w := newWorld(t)
	for _, x := range []struct{ call, want, output string }{
		{"(prin1 \"a\")", "\"a\"", "\"a\""},
		{"(princ \"a\")", "\"a\"", "a"},
		{"(print (x car :k))", "(x car :k)", "\n(x car :k) "},
		{"(terpri)", "nil", "\n"},
		{"(write-string \"é\")", "\"é\"", "é"},
		{"(write-string a)", "! type-error a string", ""},
		{"(format t \"~D\" 5)", "nil", "5"},
		{"(format 5 \"x\")", "nil", "x"},
		{"(format t \"~D\")", "! simple-error \"~D\"", ""},
		{"(terpri 1)", "! program-error terpri", ""},
		{"(prin1 #1=(a . #1#))", "#0=(a . #0#)", "#0=(a . #0#)"},
	} {
		before := w.Output()
		got := called(t, w, x.call)
		if added := strings.TrimPrefix(w.Output(), before); got != x.want || added != x.output {
			t.Errorf("%s = %s, printing %q", x.call, got, added)
		}
	}
	car, _ := w.Function(symbol(t, w, "COMMON-LISP", "CAR"))
	if got := told(t, w, w.Call(symbol(t, w, "COMMON-LISP", "PRIN1-TO-STRING"), []heap.Word{car})); got != "\"%::builtin\"" {
		t.Errorf("PRIN1-TO-STRING of a function = %s", got)
	}
}

// What has no form is printed, tested and told as a symbol.
func TestP20_1NoForm(t *testing.T) {
	w := newWorld(t)
	call := func(name string, args ...heap.Word) string {
		return told(t, w, w.Call(symbol(t, w, "COMMON-LISP", name), args))
	}
	big := w.Call(symbol(t, w, "COMMON-LISP", "MAKE-ARRAY"), []heap.Word{fix(3000)}).Values[0]
	if _, e := w.Show(big); e != api.ErrSize {
		t.Fatalf("Show of a large vector: %v", e)
	}
	for _, x := range []struct{ got, want string }{
		{call("PRIN1-TO-STRING", big), "\"%::object\""},
		{call("PRINC-TO-STRING", big), "\"object\""},
		{call("TYPEP", big, symbol(t, w, "COMMON-LISP", "VECTOR")), "nil"},
		{call("TYPEP", big, symbol(t, w, "COMMON-LISP", "ATOM")), "t"},
		{call("TYPEP", fix(1), big), "! simple-error error 4"},
		{call("SUBTYPEP", big, fix(1)), "! simple-error error 4"},
		{call("FORMAT", heap.Nil, build(t, w, "\"~S\""), big), "\"%::object\""},
		{call("LENGTH", big), "3000"},
	} {
		if x.got != x.want {
			t.Errorf("of a large vector: %s, want %s", x.got, x.want)
		}
	}
	nan, e := w.Build(forms.Dotted([]api.Form{{Kind: api.FormSingle, Text: "7fc00000"}}, forms.Nil()))
	if e != api.OK {
		t.Fatal(e)
	}
	one, _ := w.Heap().Get(nan, 0)
	for _, x := range []struct{ got, want string }{
		{call("TYPEP", nan, symbol(t, w, "COMMON-LISP", "CONS")), "t"},
		{call("TYPEP", one, symbol(t, w, "COMMON-LISP", "ATOM")), "t"},
		{call("FLOATP", one), "t"},
	} {
		if x.got != x.want {
			t.Errorf("of a float that is no number: %s, want %s", x.got, x.want)
		}
	}
	if a := w.Call(symbol(t, w, "COMMON-LISP", "+"), []heap.Word{one}); a.Kind != lib.AnswerFault || a.Fault.Type != "ARITHMETIC-ERROR" {
		t.Errorf("+ of a float that is no number: %v", a)
	}
	if a := w.Call(symbol(t, w, "COMMON-LISP", "PRIN1"), []heap.Word{one}); a.Kind != lib.AnswerFault || a.Fault.Type != "SIMPLE-ERROR" || a.Fault.Data[0] != one {
		t.Errorf("PRIN1 of a float that is no number: %v", a)
	}
}

func TestP20_1Output(t *testing.T) {
	w := newWorld(t)
	if e := w.Print(strings.Repeat("x", api.MaxOutput-1)); e != api.OK {
		t.Fatal(e)
	}
	for _, call := range []string{"(princ \"ab\")", "(print a)", "(write-string \"ab\")", "(format t \"ab\")"} {
		if got := called(t, w, call); got != "limit 14" || len(w.Output()) != api.MaxOutput-1 {
			t.Errorf("%s = %s", call, got)
		}
	}
	if got := called(t, w, "(terpri)"); got != "nil" || len(w.Output()) != api.MaxOutput {
		t.Errorf("(terpri) = %s", got)
	}
	if e := w.Print("x"); e != api.ErrLarge {
		t.Errorf("Print: %v", e)
	}
	if e := w.Print(""); e != api.OK {
		t.Errorf("Print of nothing: %v", e)
	}
}

// allNames has the names of all builtin functions in the order of the document.
const allNames = "CONS CAR CDR RPLACA RPLACD LIST LIST* CONSP ATOM LISTP NULL NOT APPEND REVERSE NTH NTHCDR LAST LENGTH MEMBER ASSOC COPY-LIST EQ EQL EQUAL EQUALP SYMBOLP KEYWORDP NUMBERP INTEGERP RATIONALP REALP FLOATP COMPLEXP CHARACTERP STRINGP BIT-VECTOR-P VECTORP ARRAYP FUNCTIONP HASH-TABLE-P + * - / = /= < <= > >= MAX MIN ABS FLOOR CEILING TRUNCATE ROUND MOD REM GCD LCM LOGAND LOGIOR LOGXOR LOGNOT ASH EXPT NUMERATOR DENOMINATOR COMPLEX REALPART IMAGPART RATIONAL RATIONALIZE FLOAT SYMBOL-NAME SYMBOL-PACKAGE SYMBOL-VALUE SET BOUNDP MAKUNBOUND SYMBOL-FUNCTION %FSET FBOUNDP FMAKUNBOUND SYMBOL-PLIST %SET-PLIST INTERN FIND-SYMBOL MAKE-SYMBOL GENSYM CHAR-CODE CODE-CHAR CHAR-UPCASE CHAR-DOWNCASE CHAR STRING= STRING< CONCAT SUBSEQ STRING VECTOR MAKE-ARRAY AREF %ASET ARRAY-DIMENSIONS ARRAY-RANK MAKE-HASH-TABLE GETHASH %PUTHASH REMHASH CLRHASH HASH-TABLE-COUNT HASH-KEYS TYPEP SUBTYPEP FUNCALL APPLY VALUES IDENTITY PRIN1 PRINC PRINT TERPRI WRITE-STRING PRIN1-TO-STRING PRINC-TO-STRING READ-FROM-STRING FORMAT"

func TestP20_1Names(t *testing.T) {
	names := lib.Names()
	for i, name := range names {
		least, most, e := lib.Arity(name)
		if e != api.OK || least < 0 || most != -1 && most < least {
			t.Errorf("Arity(%s) = %d, %d, %v", name, least, most, e)
		}
		for _, other := range names[:i] {
			if other == name {
				t.Errorf("%s stands twice", name)
			}
		}
	}
	if all := strings.Join(names, " "); all != allNames {
		t.Errorf("Names = %s", all)
	}
	for _, x := range []struct {
		name        string
		least, most int
	}{{"CONS", 2, 2}, {"LIST", 0, -1}, {"LIST*", 1, -1}, {"-", 1, -1}, {"FLOOR", 1, 2}, {"GENSYM", 0, 1}, {"SUBSEQ", 2, 3}, {"AREF", 1, -1}, {"%ASET", 2, -1}, {"APPLY", 2, -1}, {"FORMAT", 2, -1}, {"TERPRI", 0, 0}, {"GETHASH", 2, 3}} {
		if least, most, e := lib.Arity(x.name); e != api.OK || least != x.least || most != x.most {
			t.Errorf("Arity(%s) = %d, %d, %v", x.name, least, most, e)
		}
	}
	for _, name := range []string{"", "car", "NOSUCH", "NIL"} {
		if least, most, e := lib.Arity(name); e != api.ErrNone || least != 0 || most != 0 {
			t.Errorf("Arity(%s) = %d, %d, %v", name, least, most, e)
		}
	}
}

// Each builtin function says that arguments are too few or too many, whatever they are.
func TestP20_1Arities(t *testing.T) {
	w := newWorld(t)
	for _, name := range lib.Names() {
		least, most, _ := lib.Arity(name)
		s := symbol(t, w, "COMMON-LISP", name)
		for n := range 6 {
			a := w.Call(s, make([]heap.Word, n))
			isWrong := a.Kind == lib.AnswerFault && a.Fault.Type == "PROGRAM-ERROR" && len(a.Fault.Data) == 1 && a.Fault.Data[0] == s
			if fits := n >= least && (most < 0 || n <= most); isWrong == fits {
				t.Errorf("%s of %d arguments: %v", name, n, a)
			}
			if a.Kind == lib.AnswerLimit {
				t.Errorf("%s of %d arguments: %s", name, n, told(t, w, a))
			}
		}
	}
}
