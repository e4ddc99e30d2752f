package meaning_test

import (
	"slices"
	"strconv"
	"strings"
	"testing"

	"commonform/api"
	"commonform/core"
	"commonform/forms"
	"commonform/heap"
	"commonform/lib"
	"commonform/meaning"
	"commonform/printer"
	"commonform/reader"
)

func newWorld(t *testing.T) *lib.World {
	t.Helper()
	w, e := lib.New(api.MaxWords, 1000)
	if e != api.OK {
		t.Fatal(e)
	}
	return w
}

// read reads a form whose symbols are those of COMMON-LISP.
func read(t *testing.T, s string) api.Form {
	t.Helper()
	r, _, e := reader.One(reader.Standard("COMMON-LISP"), s)
	if e != api.OK {
		t.Fatalf("%s: %v", s, e)
	}
	return r.Form
}

func lisp(name string) api.Form { return forms.Symbol("COMMON-LISP", name) }

func fix(n int64) heap.Word {
	x, _ := heap.Fix(n)
	return x
}

func symbol(t *testing.T, w *lib.World, name string) heap.Word {
	t.Helper()
	x, e := w.Symbol("COMMON-LISP", name)
	if e != api.OK {
		t.Fatal(e)
	}
	return x
}

// tree returns the core tree of a form.
func tree(t *testing.T, s string) api.Core {
	t.Helper()
	c, e := core.Convert(read(t, s), nil)
	if e != api.OK {
		t.Fatalf("Convert(%s): %v", s, e)
	}
	return c
}

// told returns the text of an end.
func told(t *testing.T, w *lib.World, x lib.End) string {
	t.Helper()
	shown := func(l []heap.Word) string {
		var out []string
		for _, y := range l {
			f, e := w.Show(y)
			s, e2 := printer.Text(f, true)
			if e != api.OK || e2 != api.OK {
				t.Fatal(e, e2)
			}
			out = append(out, s)
		}
		return strings.Join(out, " ")
	}
	switch x.Kind {
	case lib.EndValues:
		return shown(x.Values)
	case lib.EndFault:
		return strings.TrimSuffix("! "+strings.ToLower(x.Fault.Type)+" "+shown(x.Fault.Data), " ")
	case lib.EndLimit:
		return "limit " + x.Code.Error()
	}
	return "bad " + x.Code.Error()
}

func run(t *testing.T, w *lib.World, s string) string {
	t.Helper()
	end, _ := meaning.Run(w, tree(t, s), api.MaxSteps)
	return told(t, w, end)
}

// testRuns runs forms, each in a world of its own.
func testRuns(t *testing.T, pairs ...string) {
	t.Helper()
	for i := 0; i < len(pairs); i += 2 {
		if got := run(t, newWorld(t), pairs[i]); got != pairs[i+1] {
			t.Errorf("%s = %s, want %s", pairs[i], got, pairs[i+1])
		}
	}
}

func TestP21_1Forms(t *testing.T) {
	testRuns(t,
		"5", "5",
		"'(1 . x)", "(1 . x)",
		"'#:g", "#:g",
		"x", "! unbound-variable x",
		"(progn (set 'x 5) x)", "5",
		"t", "t",
		"(setq x 5)", "5",
		"(progn (setq x 5) (setq x (+ x 1)) (symbol-value 'x))", "6",
		"#'car", "%::builtin",
		"#'nowhere", "! undefined-function nowhere",
		"(nowhere (princ 1))", "! undefined-function nowhere",
		"(car '(1 2))", "1",
		"(car 1)", "! type-error 1 list",
		"(car)", "! program-error car",
		"(if nil 1 2)", "2",
		"(if 0 1 2)", "1",
		"(if (values) 1 2)", "2",
		"(if (values nil 1) 1 2)", "2",
		"(progn)", "nil",
		"(progn 1 (values 2 3))", "2 3",
		"(progn (values 2 3) (values))", "",
		"(values)", "",
		"(values 1 (values 2 3) (values))", "1 2 nil",
		"(let ((x 1) (y 2)) (list x y))", "(1 2)",
		"(let ((x (values 1 2)) (y (values))) (values x y))", "1 nil",
		"(let ((x 1)) (let ((x 2) (y x)) (list x y)))", "(2 1)",
		"(let ((x 1)) (setq x (values 2 3)))", "2",
		"(let ((x 1)) (let ((x 2)) (setq x 3)) x)", "1",
		"(let ((x 1)) ((lambda () (setq x 2))) x)", "2",
		"(let* ((x 1) (f #'(lambda () (setq x (+ x 1))))) (funcall f) (funcall f) x)", "3",
		"(let ((l nil)) (let ((i 0)) (tagbody a (if (< i 3) (progn (let ((k i)) (setq l (cons #'(lambda () (setq k (+ k 10))) l))) (setq i (+ i 1)) (go a))))) (list (funcall (car l)) (funcall (car l)) (funcall (car (cdr l)))))", "(12 22 11)",
		"(flet ((f (x) (* x x))) (f 5))", "25",
		"(flet ((f () 1)) (flet ((f () (list (f)))) (f)))", "(1)",
		"(labels ((f (n) (if (= n 0) 1 (* n (f (- n 1)))))) (f 20))", "2432902008176640000",
		"(labels ((e (n) (if (= n 0) t (o (- n 1)))) (o (n) (if (= n 0) nil (e (- n 1))))) (list (e 10) (e 7)))", "(t nil)",
		"(funcall #'(lambda (x) (values x x)) 3)", "3 3",
		"(apply #'(lambda (&rest r) r) 1 2 '(3 4))", "(1 2 3 4)",
		"(funcall 'car '(1))", "1",
		"(progn (%fset 'f #'(lambda (x) (list x))) (list (f 1) (funcall 'f 2) (apply #'f '(3))))", "((1) (2) (3))",
		"(funcall 5)", "! type-error 5 function",
		"(multiple-value-call #'list 1 (values 2 3) (values) (values 4))", "(1 2 3 4)",
		"(multiple-value-call #'list)", "nil",
		"(multiple-value-call (values 'list 5) 1)", "(1)",
		"(multiple-value-call 5 1)", "! type-error 5 function",
		"(multiple-value-prog1 (values 1 2) (princ 3) 4)", "1 2",
		"(multiple-value-prog1 (values))", "",
		"(let ((x 1)) (multiple-value-prog1 x (setq x 2)))", "1",
		"(let ((x 0)) (list (setq x (+ x 1)) (setq x (* x 10)) x))", "(1 10 10)",
	)
}

func TestP21_1Closures(t *testing.T) {
	testRuns(t,
		"(funcall #'(lambda (a b) (list a b)) 1 2)", "(1 2)",
		"(funcall #'(lambda (a b) 1) 1)", "! program-error %::closure",
		"(funcall #'(lambda (a b) 1) 1 2 3)", "! program-error %::closure",
		"(funcall #'(lambda (a &optional b) (list a b)) 1)", "(1 nil)",
		"(funcall #'(lambda (a &optional (b (+ a 1) c)) (list a b c)) 1)", "(1 2 nil)",
		"(funcall #'(lambda (a &optional (b (+ a 1) c)) (list a b c)) 1 nil)", "(1 nil t)",
		"(funcall #'(lambda (&optional (a 1) (b (+ a 1)) (c (+ a b))) (list a b c)) 10)", "(10 11 21)",
		"(funcall #'(lambda (&optional a) a) 1 2)", "! program-error %::closure",
		"(funcall #'(lambda (a &rest b) (list a b)) 1)", "(1 nil)",
		"(funcall #'(lambda (a &rest b) (list a b)) 1 2 3)", "(1 (2 3))",
		"(funcall #'(lambda (&key a (b 2 c)) (list a b c)))", "(nil 2 nil)",
		"(funcall #'(lambda (&key a (b 2 c)) (list a b c)) :b 1 :a 3)", "(3 1 t)",
		"(funcall #'(lambda (&key a (b a)) (list a b)) :a 3)", "(3 3)",
		"(funcall #'(lambda (&key a) a) :a 1 :a 2)", "1",
		"(funcall #'(lambda (&key a) a) :a)", "! program-error %::closure",
		"(funcall #'(lambda (&key a) a) 5 1)", "! program-error %::closure",
		"(funcall #'(lambda (&key a &allow-other-keys) a) 5 1)", "! program-error %::closure",
		"(funcall #'(lambda (&key a) a) :b 1)", "! program-error %::closure",
		"(funcall #'(lambda (&key a) a) 'a 1)", "! program-error %::closure",
		"(funcall #'(lambda (&key ((a b))) b) 'a 1)", "1",
		"(funcall #'(lambda (&key ((nil b))) b) nil 1)", "1",
		"(funcall #'(lambda (&key a &allow-other-keys) a) :b 1 :a 2)", "2",
		"(funcall #'(lambda (&key a &allow-other-keys) a) :b)", "! program-error %::closure",
		"(funcall #'(lambda (&key &allow-other-keys) 7) 'x 1)", "7",
		"(funcall #'(lambda (&key) 7) :x 1)", "! program-error %::closure",
		"(funcall #'(lambda (&key a) a) :b 1 :allow-other-keys t)", "nil",
		"(funcall #'(lambda (&key a) a) :b 1 :allow-other-keys nil)", "! program-error %::closure",
		"(funcall #'(lambda (&key a) a) :allow-other-keys nil :b 1 :allow-other-keys t)", "! program-error %::closure",
		"(funcall #'(lambda (&key a) a) :allow-other-keys nil :a 1)", "1",
		"(funcall #'(lambda (&key a) a) :allow-other-keys t 5 1)", "! program-error %::closure",
		"(funcall #'(lambda (&key allow-other-keys) allow-other-keys) :b 1 :allow-other-keys 5)", "5",
		"(funcall #'(lambda (a &optional b &rest c &key d) (list a b c d)) 1 2 :d 3)", "(1 2 (:d 3) 3)",
		"(funcall #'(lambda (a &optional b &rest c &key d) (list a b c d)) 1)", "(1 nil nil nil)",
		"(funcall #'(lambda (a &optional b &key d) a) 1 2 3)", "! program-error %::closure",
		"(progn (funcall #'(lambda (&optional (a (princ 1)) b &key c) a) 1 2 3) 5)", "! program-error %::closure",
		"(funcall #'(lambda (x &aux (y (+ x 1)) z) (list x y z)) 1)", "(1 2 nil)",
		"(funcall #'(lambda (&optional (a (values 1 2)) (b (values))) (list a b)))", "(1 nil)",
		"(let ((f #'(lambda (&optional (a #'(lambda () a)) (b (list a))) b))) (funcall f 5))", "(5)",
		"(let ((a 1)) (funcall #'(lambda (&optional (b a) (a 2)) (list a b))))", "(2 1)",
		"(let ((a 1)) (funcall #'(lambda (a &optional (b a)) (list a b)) 5))", "(5 5)",
	)
	w := newWorld(t)
	run(t, w, "(%fset 'f #'(lambda (&optional (a (princ \"init\"))) a))")
	if got := run(t, w, "(f 1 2)"); got != "! program-error %::closure" || w.Output() != "" {
		t.Errorf("too many arguments: %s, printing %s", got, w.Output())
	}
}

func TestP21_1Exits(t *testing.T) {
	testRuns(t,
		"(block a 1 (return-from a (values 2 3)) 4)", "2 3",
		"(block a 1 2)", "2",
		"(block a)", "nil",
		"(+ 1 (block a (+ 10 (return-from a 5))))", "6",
		"(block a (block b (return-from a 1)) 2)", "1",
		"(block a (block b (return-from b 1)) 2)", "2",
		"(block a (funcall #'(lambda () (return-from a 1))) 2)", "1",
		"(funcall (block a #'(lambda () (return-from a 1))))", "! control-error",
		"(let ((f (block a #'(lambda () (return-from a 1))))) (block a (funcall f)))", "! control-error",
		"(labels ((f (n g) (block a (if (= n 0) (funcall g) (progn (f (- n 1) (if (= n 2) #'(lambda () (return-from a 'two)) g)) (list n)))))) (list (f 4 nil)))", "((4))",
		"(labels ((f (n g) (block a (if (= n 0) (progn (funcall g) 'never) (list n (f (- n 1) (if (= n 2) #'(lambda () (return-from a 'two)) g))))))) (f 4 nil))", "(4 (3 two))",
		"(tagbody 1 2)", "nil",
		"(let ((l nil)) (tagbody (setq l (cons 1 l)) (go b) a (setq l (cons 2 l)) (go c) b (setq l (cons 3 l)) (go a) c (setq l (cons 4 l))) l)", "(4 2 3 1)",
		"(let ((n 0)) (tagbody a (setq n (+ n 1)) (if (< n 100) (go a))) n)", "100",
		"(let ((n 0)) (tagbody (funcall #'(lambda () (go b))) (setq n 1) b) n)", "0",
		"(let ((f nil) (n 0)) (tagbody (setq f #'(lambda () (go a))) a (setq n (+ n 1))) (funcall f))", "! control-error",
		"(let ((f nil) (n 0)) (tagbody (setq f #'(lambda () (go a))) a (setq n (+ n 1)) (if (< n 5) (funcall f))) n)", "5",
		"(let ((l nil)) (tagbody a (tagbody (setq l (cons 1 l)) (if (car (cdr l)) (go b)) (go a)) b) l)", "(1 1)",
		"(catch 'a 1)", "1",
		"(catch 'a (values 1 2))", "1 2",
		"(catch 'a (throw 'a (values 1 2)) 3)", "1 2",
		"(catch 'a (catch 'b (throw 'a 1)) 2)", "1",
		"(catch 'a (list (catch 'a (throw 'a 1))))", "(1)",
		"(catch 100000000000000000000 (throw 100000000000000000000 1))", "1",
		"(catch 1.5 (throw 1.5 1))", "1",
		"(catch #c(1 2) (throw #c(1 2) 1))", "1",
		"(catch #c(1 2) (throw #c(1 3) 1))", "! control-error #C(1 3)",
		"(catch #c(2 2) (throw #c(1 2) 1))", "! control-error #C(1 2)",
		"(catch #c(1/2 100000000000000000000) (throw #c(1/2 100000000000000000000) 7))", "7",
		"(catch #c(1/2 1) (throw #c(1/3 1) 7))", "! control-error #C(1/3 1)",
		"(catch 1.5 (throw 2.5 1))", "! control-error 2.5",
		"(catch 1/2 (throw 1/2 1))", "1",
		"(catch #*1 (throw #*1 1))", "! control-error #*1",
		"(catch 1.5 (throw 1.5d0 1))", "! control-error 1.5d0",
		"(catch #\\a (throw #\\a 1))", "1",
		"(catch 5 (throw 5 1))", "1",
		"(catch \"a\" (throw \"a\" 1))", "! control-error \"a\"",
		"(throw 'a 1)", "! control-error a",
		"(progn (catch 'a 1) (throw 'a 1))", "! control-error a",
		"(catch 'a (funcall #'(lambda () (throw 'a 1))))", "1",
		"(catch (values 'a 'b) (throw (values 'a 'c) 1))", "1",
		"(throw (princ 'a) (catch 'a (throw 'a 'b)))", "! control-error a",
	)
}

func TestP21_3Cleanup(t *testing.T) {
	for _, x := range []struct{ form, want, output string }{
		{"(unwind-protect (princ 1) (princ 2))", "1", "12"},
		{"(unwind-protect (values 1 2) (princ 3) (values 4 5))", "1 2", "3"},
		{"(unwind-protect (values) (princ 3))", "", "3"},
		{"(block a (unwind-protect (return-from a (princ 1)) (princ 2)) (princ 3))", "1", "12"},
		{"(block a (unwind-protect (unwind-protect (return-from a 0) (princ 1)) (princ 2)) (princ 3))", "0", "12"},
		{"(catch 'a (unwind-protect (throw 'a 1) (princ 2)))", "1", "2"},
		{"(tagbody (unwind-protect (go b) (princ 1)) (princ 2) b (princ 3))", "nil", "13"},
		{"(unwind-protect (car 1) (princ 2))", "! type-error 1 list", "2"},
		{"(unwind-protect (unwind-protect (car 1) (princ 1)) (princ 2))", "! type-error 1 list", "12"},
		{"(unwind-protect 1 (princ 2) (car 5))", "! type-error 5 list", "2"},
		{"(unwind-protect (car 1) (princ 2) (cdr 5))", "! type-error 5 list", "2"},
		{"(block a (unwind-protect (car 1) (princ 2) (return-from a 7)))", "7", "2"},
		{"(block a (block b (unwind-protect (return-from a 1) (return-from b 2))) (princ 3) 4)", "4", "3"},
		{"(block a (unwind-protect (return-from a 1) (return-from a 2)))", "2", ""},
		{"(catch 'a (catch 'b (unwind-protect (throw 'a 1) (throw 'b 2))) 3)", "3", ""},
		{"(let ((n 0)) (tagbody a (unwind-protect (if (< n 3) (go b) (go c)) (princ n)) b (setq n (+ n 1)) (go a) c))", "nil", "0123"},
		{"(let ((n 0)) (block a (tagbody b (unwind-protect (return-from a n) (setq n (+ n 1)) (if (< n 3) (go b))))))", "2", ""},
		{"(unwind-protect (progn (unwind-protect 1 (princ 1)) (princ 2)) (princ 3))", "2", "123"},
		{"(progn (unwind-protect (throw 'a 1) (princ 1)) (princ 2))", "! control-error a", "1"},
		{"(catch 'a (unwind-protect (funcall #'(lambda () (throw 'a 1))) (princ 1)))", "1", "1"},
		{"(block a (unwind-protect 5 (return-from a (values 1 2))))", "1 2", ""},
		{"(block a (unwind-protect (unwind-protect (return-from a 1) (car 2)) (princ 3)))", "! type-error 2 list", "3"},
	} {
		w := newWorld(t)
		if got := run(t, w, x.form); got != x.want || w.Output() != x.output {
			t.Errorf("%s = %s, printing %s; want %s, %s", x.form, got, w.Output(), x.want, x.output)
		}
	}
}

// A limit leaves at once.
func TestP21_3Limits(t *testing.T) {
	for _, x := range []struct{ form, want string }{
		{"(unwind-protect (tagbody a (go a)) (princ 1))", "limit 10"},
		{"(unwind-protect (labels ((f () (list (f)))) (f)) (princ 1))", "limit 12"},
		{"(unwind-protect (let ((l nil)) (tagbody a (setq l (cons (make-array 100) l)) (go a))) (princ 1))", "limit 11"},
		{"(unwind-protect (tagbody a (write-string \"\") (go a)) (princ 1))", "limit 10"},
		{"(labels ((f () (car (f)))) (f))", "limit 12"},
	} {
		w := newWorld(t)
		if got := run(t, w, x.form); got != x.want || w.Output() != "" {
			t.Errorf("%s = %s, printing %s", x.form, got, w.Output())
		}
	}
	w := newWorld(t)
	if got := run(t, w, "(unwind-protect (tagbody a (write-string \"0123456789\") (go a)) (set 'x 1))"); got != "limit 14" || run(t, w, "x") != "! unbound-variable x" {
		t.Errorf("too long an output: %s", got)
	}
}

func TestP21_3Bindings(t *testing.T) {
	for _, x := range []struct{ form, want, then string }{
		{"(let ((s 1)) (declare (special s)) (list s (symbol-value 's) (setq s 2) (symbol-value 's)))", "(1 1 2 2)", "(0 ! unbound)"},
		{"(let ((s 1) (r 2)) (declare (special s r)) (list s r))", "(1 2)", "(0 ! unbound)"},
		{"(let ((s 1)) (declare (special s)) (car 5))", "! type-error 5 list", "(0 ! unbound)"},
		{"(block a (let ((s 1)) (declare (special s)) (return-from a (list s))))", "(1)", "(0 ! unbound)"},
		{"(catch 'a (let ((s 1)) (declare (special s)) (let ((s 2)) (declare (special s)) (throw 'a s))))", "2", "(0 ! unbound)"},
		{"(let ((s 1)) (declare (special s)) (set 's 5))", "5", "(0 ! unbound)"},
		{"(let ((r 1)) (declare (special r)) (makunbound 'r))", "r", "(0 ! unbound)"},
		{"(let ((s 1) (x 2)) (declare (special s)) (list s x (let ((s x)) (declare (special s)) s) s))", "(1 2 2 1)", "(0 ! unbound)"},
		{"(progn (setq s 7) (let ((s 1)) (declare (special s)) (setq s 2)) s)", "7", "(7 ! unbound)"},
		{"(let ((s (+ (symbol-value 's) 1))) (declare (special s)) s)", "1", "(0 ! unbound)"},
		{"(progv '(s r) '(1 2) (list (symbol-value 's) (symbol-value 'r)))", "(1 2)", "(0 ! unbound)"},
		{"(progv '(s r) '(1) (list (symbol-value 's) (boundp 'r)))", "(1 nil)", "(0 ! unbound)"},
		{"(progv '(s) '(1 2 3) (symbol-value 's))", "1", "(0 ! unbound)"},
		{"(progv '(s) nil (symbol-value 's))", "! unbound-variable s", "(0 ! unbound)"},
		{"(progv nil nil (values 1 2))", "1 2", "(0 ! unbound)"},
		{"(progv '(s s r) '(1 2 3) (list (symbol-value 's) (symbol-value 'r)))", "(2 3)", "(0 ! unbound)"},
		{"(progv 5 6 7)", "! type-error 5 list", "(0 ! unbound)"},
		{"(progv '(s) 6 7)", "! type-error 6 list", "(0 ! unbound)"},
		{"(progv '(s . r) '(1) 7)", "! type-error (s . r) list", "(0 ! unbound)"},
		{"(progv '(s) '(1 . 2) 7)", "! type-error (1 . 2) list", "(0 ! unbound)"},
		{"(progv '(s 5 r) '(1) 7)", "! type-error 5 symbol", "(0 ! unbound)"},
		{"(progv '(s nil) '(1 2) 7)", "! program-error nil", "(0 ! unbound)"},
		{"(progv '(s :k 5) '(1 2) 7)", "! type-error 5 symbol", "(0 ! unbound)"},
		{"(progv '(:k t) '(1 2) 7)", "! program-error :k", "(0 ! unbound)"},
		{"(progv (values '(s) 1) (values '(1) 2) (symbol-value 's))", "1", "(0 ! unbound)"},
		{"(let ((l (list 's))) (rplacd l l) (progv l nil 1))", "! type-error #0=(s . #0#) list", "(0 ! unbound)"},
		{"(unwind-protect (let ((s 1)) (declare (special s)) (car 5)) (princ (symbol-value 's)))", "! type-error 5 list", "(0 ! unbound)"},
		{"(let ((s 1)) (declare (special s)) (unwind-protect (car 5) (setq s 9)))", "! type-error 5 list", "(0 ! unbound)"},
		{"(let ((f #'(lambda (s &optional (q s)) (declare (special s)) (list q (symbol-value 's))))) (list (funcall f 1) (symbol-value 's)))", "((1 1) 0)", "(0 ! unbound)"},
	} {
		w := newWorld(t)
		run(t, w, "(set 's 0)")
		got := run(t, w, x.form)
		then := "(" + run(t, w, "(symbol-value 's)") + " " + strings.TrimSuffix(run(t, w, "(symbol-value 'r)"), "-variable r") + ")"
		if got != x.want || then != x.then {
			t.Errorf("%s = %s, then %s; want %s, %s", x.form, got, then, x.want, x.then)
		}
	}
}

func constant(text string) api.Core {
	return api.Core{Op: api.CoreConst, Data: api.Form{Kind: api.FormInt, Text: text}}
}

func node(op int, kids ...api.Core) api.Core { return api.Core{Op: op, Kids: kids} }

// Trees that no form has.
func TestP21_1Trees(t *testing.T) {
	k := forms.Symbol("KEYWORD", "K")
	one := constant("1")
	bind := func(names ...api.Form) api.Core {
		c := api.Core{Op: api.CoreBind, Syms: names}
		c.Kids = slices.Repeat([]api.Core{one}, len(names)+1)
		return c
	}
	for _, x := range []struct {
		c    api.Core
		want string
	}{
		{api.Core{Op: api.CoreSpecial, Data: k}, ":k"},
		{api.Core{Op: api.CoreSetSpecial, Data: k, Kids: []api.Core{one}}, "! program-error :k"},
		{bind(lisp("S"), k, forms.Symbol("KEYWORD", "J")), "! program-error :k"},
		{api.Core{Op: api.CoreFunction, Data: k}, "! undefined-function :k"},
		{api.Core{Op: api.CoreCallGlobal, Data: k}, "! undefined-function :k"},
		{node(api.CoreCall, api.Core{Op: api.CoreConst, Data: lisp("CAR")}, api.Core{Op: api.CoreConst, Data: forms.Nil()}), "nil"},
		{node(api.CoreCall, one), "! type-error 1 function"},
		{api.Core{Op: api.CoreLet, Kids: []api.Core{one}}, "1"},
		{api.Core{Op: api.CoreLabels, Kids: []api.Core{one}}, "1"},
		{api.Core{Op: api.CoreBind, Kids: []api.Core{one}}, "1"},
		{api.Core{Op: api.CoreTagbody, Kids: []api.Core{one}}, "nil"},
		{node(api.CoreCall, api.Core{Op: api.CoreLambda, Pars: []api.Param{{Kind: api.ParamOptional, Var: 1, Given: 0}}, Kids: []api.Core{one, {Op: api.CoreVar}}}, one), "t"},
		{api.Core{Op: api.CoreVar}, "bad 2"},
		{api.Core{}, "bad 2"},
		{node(api.CoreProgn, slices.Repeat([]api.Core{one}, 2000)...), "bad 4"},
		{api.Core{Op: api.CoreSpecial, Data: forms.Symbol("NOWHERE", "X")}, "bad 5"},
		{api.Core{Op: api.CoreFunction, Data: forms.Symbol("U", strings.Repeat("X", 61))}, "bad 4"},
		{api.Core{Op: api.CoreSetSpecial, Data: forms.Symbol("NOWHERE", "X"), Kids: []api.Core{one}}, "bad 5"},
		{api.Core{Op: api.CoreCallGlobal, Data: forms.Symbol("NOWHERE", "X"), Kids: []api.Core{one}}, "bad 5"},
		{bind(lisp("S"), forms.Symbol("NOWHERE", "X")), "bad 5"},
		{api.Core{Op: api.CoreConst, Data: forms.Symbol("NOWHERE", "X")}, "bad 5"},
		{api.Core{Op: api.CoreConst, Data: forms.Symbol("%", "X")}, "bad 5"},
		{api.Core{Op: api.CoreConst, Data: forms.Symbol("", strings.Repeat("X", 61))}, "bad 4"},
	} {
		w := newWorld(t)
		end, steps := meaning.Run(w, x.c, 100)
		if got := told(t, w, end); got != x.want || strings.HasPrefix(x.want, "bad 2") && steps != 0 {
			t.Errorf("Run(%.200v) = %s", x.c, got)
		}
		if v, e := w.Value(symbol(t, w, "S")); e != api.OK || v != heap.Unbound {
			t.Errorf("Run(%.200v) leaves S with the value %d", x.c, v)
		}
	}
	// The end that a symbol makes runs no cleanup.
	w := newWorld(t)
	print := api.Core{Op: api.CoreCallGlobal, Data: lisp("PRINC"), Kids: []api.Core{one}}
	end, steps := meaning.Run(w, node(api.CoreProgn, print, node(api.CoreProtect, api.Core{Op: api.CoreSpecial, Data: forms.Symbol("NOWHERE", "X")}, print)), 100)
	if got := told(t, w, end); got != "bad 5" || w.Output() != "1" || steps != 6 {
		t.Errorf("a symbol that is refused: %s, printing %s in %d steps", got, w.Output(), steps)
	}
	if end, steps := meaning.Run(nil, one, 100); end.Kind != lib.EndBad || end.Code != api.ErrArg || steps != 0 {
		t.Errorf("Run without a world: %v", end)
	}
	if end, steps := meaning.Apply(nil, heap.Nil, nil, 100); end.Kind != lib.EndBad || end.Code != api.ErrArg || steps != 0 {
		t.Errorf("Apply without a world: %v", end)
	}
	if _, e := meaning.Closure(nil, heap.Nil); e != api.ErrArg {
		t.Errorf("Closure without a world: %v", e)
	}
	full := newWorld(t)
	for {
		if _, e := full.Symbols().Fresh("X"); e != api.OK {
			break
		}
	}
	if got := run(t, full, "new"); got != "bad 9" {
		t.Errorf("a symbol too many: %s", got)
	}
	if got := run(t, full, "(car 1)"); got != "! type-error 1 list" {
		t.Errorf("a fault without room for its symbol: %s", got)
	}
}

func TestP21_1Faults(t *testing.T) {
	for _, x := range []struct{ setup, form, want, output string }{
		{"(%fset '%fault #'(lambda (type data) (throw 'out (list type data))))", "(catch 'out (list (car 1)))", "(type-error (1 list))", ""},
		{"(%fset '%fault #'(lambda (type data) (throw 'out (list type data))))", "(catch 'out (unwind-protect x (princ 1)))", "(unbound-variable (x))", "1"},
		{"(%fset '%fault #'(lambda (type data) (throw 'out (list type data))))", "(catch 'out (/ 1 0))", "(division-by-zero nil)", ""},
		{"(%fset '%fault #'(lambda (type data) (throw 'out (list type data))))", "(catch 'out (progn (funcall #'(lambda (x) x)) 5))", "(program-error (%::closure))", ""},
		{"(%fset '%fault #'(lambda (type data) (throw 'out (list type data))))", "(catch 'out (throw 'in 1))", "(control-error (in))", ""},
		{"(%fset '%fault #'(lambda (type data) (princ type) 5))", "(progn (unwind-protect (car 1) (princ 1)) (princ 2))", "! type-error 1 list", "TYPE-ERROR1"},
		{"(%fset '%fault #'(lambda (type data) (princ (symbol-value 's)) 5))", "(let ((s 1)) (declare (special s)) (car 1))", "! type-error 1 list", "1"},
		{"(%fset '%fault 'list)", "(car 1)", "! type-error 1 list", ""},
		{"(%fset '%fault 'values)", "(unwind-protect (car 1) (princ 7))", "! type-error 1 list", "7"},
		{"(%fset '%fault 'car)", "(car 1)", "limit 12", ""},
		{"(%fset '%fault #'(lambda () 1))", "(car 1)", "limit 12", ""},
		{"(%fset '%fault #'(lambda (type data) (if (eql (car data) 2) nil (cdr 2))))", "(car 1)", "! type-error 2 list", ""},
		{"(%fset '%fault #'(lambda (type data) (fmakunbound '%fault) (cdr 2)))", "(car 1)", "! type-error 2 list", ""},
		{"nil", "(unwind-protect (car 1) (%fset '%fault #'(lambda (type data) (throw 'out 8))))", "! type-error 1 list", ""},
		{"(%fset '%fault #'(lambda (type data) (throw 'out 8)))", "(catch 'out (unwind-protect (car 1) (princ 1) (car 2)))", "8", "1"},
	} {
		w := newWorld(t)
		run(t, w, x.setup)
		if got := run(t, w, x.form); got != strings.ToLower(x.want) || !strings.EqualFold(w.Output(), x.output) {
			t.Errorf("%s behind %s = %s, printing %s; want %s, %s", x.form, x.setup, got, w.Output(), x.want, x.output)
		}
	}
	w := newWorld(t)
	w.SetFunction(symbol(t, w, "%FAULT"), fix(5))
	if got := run(t, w, "(car 1)"); got != "! type-error 1 list" {
		t.Errorf("with a number as the function of %%FAULT: %s", got)
	}
	w = newWorld(t)
	if _, status, _ := w.Symbols().Find("COMMON-LISP", "%FAULT"); status != 0 {
		t.Errorf("%%FAULT is there in a new world")
	}
	run(t, w, "(car 1)")
	if _, status, _ := w.Symbols().Find("COMMON-LISP", "%FAULT"); status == 0 {
		t.Errorf("%%FAULT is not interned by a fault")
	}
}

// A constant is one object in a run, and another one in another run.
func TestP21_1Constants(t *testing.T) {
	w := newWorld(t)
	run(t, w, "(%fset 'f #'(lambda () '(1)))")
	for _, x := range []struct{ form, want string }{
		{"(eq (f) (f))", "t"},
		{"(let ((l nil)) (tagbody a (setq l (cons '(1) l)) (if (cdr l) nil (go a))) (eq (car l) (car (cdr l))))", "t"},
		{"(eq '(1) '(1))", "nil"},
		{"(eq '#1=\"x\" '#1#)", "nil"},
		{"(let ((x (f))) (rplaca x 2) (f))", "(2)"},
		{"(f)", "(1)"},
	} {
		if strings.Contains(x.form, "#1") {
			continue
		}
		if got := run(t, w, x.form); got != x.want {
			t.Errorf("%s = %s", x.form, got)
		}
	}
	one, _ := meaning.Run(w, tree(t, "(f)"), 100)
	two, _ := meaning.Run(w, tree(t, "(f)"), 100)
	if one.Values[0] == two.Values[0] {
		t.Error("a constant is the same object in two runs")
	}
	register(t, w)
	if got := run(t, w, "(eq (f) (within #'f))"); got != "t" {
		t.Error("a constant is another object in a part of a run")
	}
	if got := run(t, w, "(eq (within #'f) (within #'f))"); got != "t" {
		t.Error("a constant is another object in another part of a run")
	}
}

// register adds WITHIN, which calls a function in a run that is a part of another one, and SWALLOW, which then forgets how this ended.
func register(t *testing.T, w *lib.World) {
	t.Helper()
	within := func(args []heap.Word) lib.Answer {
		end, _ := meaning.Apply(w, args[0], args[1:], 5000)
		switch end.Kind {
		case lib.EndValues:
			return lib.Answer{Values: end.Values}
		case lib.EndFault:
			return lib.Answer{Kind: lib.AnswerFault, Fault: end.Fault}
		}
		return lib.Answer{Kind: lib.AnswerLimit, Code: end.Code}
	}
	swallow := func(args []heap.Word) lib.Answer {
		end, _ := meaning.Apply(w, args[0], args[1:], 5000)
		return lib.Answer{Values: []heap.Word{fix(int64(end.Kind)), fix(int64(end.Code))}}
	}
	if e := w.Register("WITHIN", 1, -1, within); e != api.OK {
		t.Fatal(e)
	}
	if e := w.Register("SWALLOW", 1, -1, swallow); e != api.OK {
		t.Fatal(e)
	}
}

func TestP21_1Parts(t *testing.T) {
	for _, x := range []struct{ form, want, output string }{
		{"(within #'list 1 2)", "(1 2)", ""},
		{"(within #'(lambda (x) (values x 2)) 1)", "1 2", ""},
		{"(list (within #'(lambda () (block a (return-from a 1)))))", "(1)", ""},
		{"(list (within #'(lambda () (catch 'a (throw 'a 1)))))", "(1)", ""},
		{"(let ((x 1)) (within #'(lambda () (setq x 2))) x)", "2", ""},
		{"(unwind-protect (block a (within #'(lambda () (return-from a 1)))) (princ 1))", "limit 230", ""},
		{"(unwind-protect (tagbody (within #'(lambda () (go a))) a) (princ 1))", "limit 230", ""},
		{"(catch 'a (within #'(lambda () (throw 'a 1))))", "limit 230", ""},
		{"(within #'(lambda () (unwind-protect (throw 'a 1) (princ 1))))", "limit 230", ""},
		{"(block a (list (swallow #'(lambda () (return-from a 1)))))", "limit 230", ""},
		{"(block a (list (within #'(lambda () (swallow #'(lambda () (return-from a 1)))))))", "limit 230", ""},
		{"(block a (unwind-protect (swallow #'swallow #'(lambda () (return-from a 1))) (princ 1)))", "limit 230", ""},
		{"(within #'(lambda () (funcall (block a #'(lambda () (return-from a 1))))))", "! control-error", ""},
		{"(let ((f (block a #'(lambda () (return-from a 1))))) (within f))", "limit 230", ""},
		{"(let ((f (block a #'(lambda () (return-from a 1))))) (funcall f))", "! control-error", ""},
		{"(funcall (within #'(lambda () (block a #'(lambda () (return-from a 1))))))", "! control-error", ""},
		{"(within #'(lambda () (funcall (within #'(lambda () (block a #'(lambda () (return-from a 1))))))))", "limit 230", ""},
		{"(within #'(lambda () (tagbody (funcall #'(lambda () (go a))) (princ 1) a)))", "nil", ""},
		{"(within #'car 1)", "! type-error 1 list", ""},
		{"(list (swallow #'car 1))", "(1)", ""},
		{"(list (swallow #'(lambda () (tagbody a (go a)))))", "(3)", ""},
		{"(let ((s 1)) (declare (special s)) (within #'(lambda () (symbol-value 's))))", "1", ""},
		{"(progn (swallow #'(lambda () (let ((s 1)) (declare (special s)) (car 1)))) (boundp 's))", "nil", ""},
	} {
		w := newWorld(t)
		register(t, w)
		if got := run(t, w, x.form); got != x.want || w.Output() != x.output {
			t.Errorf("%s = %s, printing %s; want %s", x.form, got, w.Output(), x.want)
		}
		if got := run(t, w, "(catch 'a (list (swallow #'car 1)))"); got != "(1)" {
			t.Errorf("a run behind %s = %s", x.form, got)
		}
	}
}

func TestP21_1Apply(t *testing.T) {
	w := newWorld(t)
	end, _ := meaning.Run(w, tree(t, "(let ((n 10)) #'(lambda (x) (setq n (+ n x))))"), 100)
	f := end.Values[0]
	car := symbol(t, w, "CAR")
	builtin, _ := w.Function(car)
	w.SetFunction(symbol(t, w, "F"), f)
	stray, _ := w.Heap().New(heap.KindClosure, 2)
	for _, x := range []struct {
		function heap.Word
		args     []heap.Word
		steps    int
		want     string
	}{
		{f, []heap.Word{fix(1)}, 100, "11"},
		{f, []heap.Word{fix(1)}, 100, "12"},
		{symbol(t, w, "F"), []heap.Word{fix(1)}, 100, "13"},
		{f, nil, 100, "! program-error %::closure"},
		{car, []heap.Word{heap.Nil}, 1, "nil"},
		{builtin, []heap.Word{heap.Nil}, 1, "nil"},
		{builtin, []heap.Word{heap.Nil}, 0, "limit 10"},
		{builtin, []heap.Word{heap.Nil}, -5, "limit 10"},
		{builtin, []heap.Word{fix(5)}, 1, "! type-error 5 list"},
		{fix(5), nil, 1, "! type-error 5 function"},
		{heap.Unbound, nil, 1, "! type-error %::unbound function"},
		{symbol(t, w, "NOWHERE"), nil, 1, "! undefined-function nowhere"},
		{stray, nil, 1, "! control-error %::closure"},
		{7, nil, 1, "limit 170"},
		{f, []heap.Word{7}, 1, "limit 170"},
		{builtin, []heap.Word{heap.Word(1<<40 | 3)}, 1, "limit 170"},
	} {
		end, steps := meaning.Apply(w, x.function, x.args, x.steps)
		if got := told(t, w, end); got != x.want || steps < 0 || steps > max(0, x.steps) {
			t.Errorf("Apply(%d, %v) = %s in %d steps, want %s", x.function, x.args, got, steps, x.want)
		}
	}
}

func TestP21_1Closure(t *testing.T) {
	w := newWorld(t)
	c := tree(t, "(let ((n 10)) (list #'(lambda (x &key (y '(1 2))) (setq n (+ n x))) (labels ((g () n)) #'g)))")
	end, _ := meaning.Run(w, c, 100)
	first, _ := w.Heap().Get(end.Values[0], 0)
	second, _ := w.Heap().Get(end.Values[0], 1)
	second, _ = w.Heap().Get(second, 0)
	for _, x := range []struct {
		word heap.Word
		want api.Core
	}{{first, c.Kids[1].Kids[0]}, {second, c.Kids[1].Kids[1].Kids[0]}} {
		got, e := meaning.Closure(w, x.word)
		if e != api.OK || !equal(got, x.want) {
			t.Errorf("Closure = %v, %v", got, e)
		}
		got.Kids[0] = constant("7")
		if again, _ := meaning.Closure(w, x.word); !equal(again, x.want) {
			t.Error("the tree of a closure was changed")
		}
		h := w.Heap()
		index, _ := h.Get(x.word, 0)
		list, _ := h.Get(x.word, 1)
		if _, ok := index.Fixnum(); !ok || h.Kind(x.word) != heap.KindClosure || h.Len(x.word) != 2 || h.Kind(list) != heap.KindCons {
			t.Error("a closure has other fields")
		}
		for h.Kind(list) == heap.KindCons {
			entry, _ := h.Get(list, 0)
			key, _ := h.Get(entry, 0)
			cell, _ := h.Get(entry, 1)
			if _, ok := key.Fixnum(); !ok || h.Kind(cell) != heap.KindBox {
				t.Error("an environment is no list of variables and cells")
			}
			list, _ = h.Get(list, 1)
		}
	}
	c.Kids[0] = constant("7")
	stray, _ := w.Heap().New(heap.KindClosure, 2)
	raw, _ := w.Heap().Raw(heap.KindClosure, "abc")
	for _, x := range []heap.Word{fix(5), heap.Nil, 7, heap.Word(1<<40 | 3), stray, raw} {
		if c, e := meaning.Closure(w, x); e != api.ErrType || c.Op != 0 {
			t.Errorf("Closure(%d) = %v, %v", x, c, e)
		}
	}
	v := newWorld(t)
	far, _ := v.Heap().New(heap.KindClosure, 2)
	v.Heap().Set(far, 0, fix(99))
	if _, e := meaning.Closure(v, far); e != api.ErrType {
		t.Errorf("Closure of another world: %v", e)
	}
	// An environment that others have made goes round, and has no such variable.
	round, _ := v.Heap().New(heap.KindCons, 2)
	v.Heap().Set(round, 1, round)
	end, _ = meaning.Run(v, tree(t, "(let ((n 10)) #'(lambda () n))"), 100)
	v.Heap().Set(end.Values[0], 1, round)
	meaning.Apply(v, end.Values[0], nil, 100)
}

func equal(a, b api.Core) bool {
	x, e := core.Show(api.Core{Op: api.CoreLet, Vars: []int{9998, 9999}, Kids: []api.Core{constant("1"), constant("1"), a}})
	y, f := core.Show(api.Core{Op: api.CoreLet, Vars: []int{9998, 9999}, Kids: []api.Core{constant("1"), constant("1"), b}})
	if e != f {
		return false
	}
	return x == y && slices.EqualFunc(a.Kids, b.Kids, equal) && a.Op == b.Op && a.N == b.N && slices.Equal(a.Vars, b.Vars) && forms.Equal(a.Data, b.Data)
}

func TestP21_1Code(t *testing.T) {
	w := newWorld(t)
	code, _ := w.Heap().New(heap.KindCode, 1)
	w.SetFunction(symbol(t, w, "C"), code)
	if got := run(t, w, "(unwind-protect (c 1) (princ 1))"); got != "! control-error %::closure" || w.Output() != "1" {
		t.Errorf("without another road: %s", got)
	}
	for _, extra := range []any{5, (func(heap.Word, []heap.Word, int) (lib.End, int))(nil), func(heap.Word, []heap.Word) lib.End { return lib.End{} }} {
		w.SetExtra("apply", extra)
		if got := run(t, w, "(c 1)"); got != "! control-error %::closure" {
			t.Errorf("with %T as another road: %s", extra, got)
		}
	}
	var left []int
	var end lib.End
	took := 0
	w.SetExtra("apply", func(function heap.Word, args []heap.Word, steps int) (lib.End, int) {
		if function != code {
			t.Errorf("another function is called: %d", function)
		}
		left = append(left, steps)
		if end.Kind == lib.EndValues {
			return lib.End{Values: append(slices.Clone(args), fix(7))}, took
		}
		return end, took
	})
	steps := func(form string, limit int) (string, int) {
		x, n := meaning.Run(w, tree(t, form), limit)
		return told(t, w, x), n
	}
	took = 10
	if got, n := steps("(multiple-value-call #'list (c 1) (c))", 100); got != "(1 7 7)" || n != 28 || left[0] != 95 || left[1] != 83 {
		t.Errorf("calls by another road: %s in %d steps, with %v", got, n, left)
	}
	if got, n := steps("(funcall 'c 1)", 100); got != "1 7" || n != 15 {
		t.Errorf("a call by FUNCALL: %s in %d steps", got, n)
	}
	took = 1000
	if got, n := steps("(list (c))", 50); got != "limit 10" || n != 50 {
		t.Errorf("a call with too many steps: %s in %d steps", got, n)
	}
	took = -5
	if got, n := steps("(c)", 50); got != "7" || n != 2 {
		t.Errorf("a call with steps below 0: %s in %d steps", got, n)
	}
	run(t, w, "(%fset '%fault #'(lambda (type data) (throw 'out 8)))")
	before := w.Output()
	end = lib.End{Kind: lib.EndFault, Fault: lib.Fault{Type: "MINE", Data: []heap.Word{fix(3)}}}
	if got, _ := steps("(catch 'out (unwind-protect (c) (princ 2)))", 100); got != "! mine 3" || w.Output() != before+"2" {
		t.Errorf("a fault of another road: %s, printing %s", got, w.Output())
	}
	run(t, w, "(%fset '%fault 'c)")
	end = lib.End{Values: nil}
	if got, n := steps("(car 1)", 100); got != "! type-error 1 list" || n != 4 {
		t.Errorf("a fault that is told to code: %s in %d steps", got, n)
	}
	end = lib.End{Kind: lib.EndLimit, Code: api.ErrDepth}
	if got, _ := steps("(unwind-protect (c) (princ 3))", 100); got != "limit 12" || w.Output() != before+"2" {
		t.Errorf("a limit of another road: %s", got)
	}
	end = lib.End{Kind: lib.EndBad, Code: 99}
	if got, _ := steps("(c)", 100); got != "bad 99" {
		t.Errorf("a bad end of another road: %s", got)
	}
	w.SetExtra("apply", func(heap.Word, []heap.Word, int) (lib.End, int) {
		if end.Kind == lib.EndBad {
			panic("x")
		}
		return end, took
	})
	if got, _ := steps("(c)", 100); got != "bad 1" {
		t.Errorf("another road that panics: %s", got)
	}
	end = lib.End{Kind: lib.EndLimit, Code: meaning.ErrCross}
	register(t, w)
	if got, _ := steps("(list (swallow #'c))", 100); got != "limit 230" {
		t.Errorf("an exit that crosses on another road: %s", got)
	}
	end = lib.End{Values: []heap.Word{fix(1), fix(7)}}
	took = 3
	if x, n := meaning.Apply(w, code, []heap.Word{fix(1)}, 100); told(t, w, x) != "1 7" || n != 4 {
		t.Errorf("Apply of code: %s in %d steps", told(t, w, x), n)
	}
}

// fill takes all words of a heap but so many.
func fill(t *testing.T, w *lib.World, left int) {
	t.Helper()
	for {
		n := w.Heap().Limit() - w.Heap().Used() - left
		if n <= 0 {
			return
		}
		if _, e := w.Heap().New(heap.KindVector, min(n-1, 16384)); e != api.OK {
			t.Fatal(e)
		}
	}
}

// Without room a run ends with this limit alone, wherever it is.
func TestP21_1Words(t *testing.T) {
	for _, s := range []string{
		"'(1 2)", "\"abc\"", "(let ((x 1) (y 2)) #'(lambda () x))", "(let ((x 1)) (block a (list #'(lambda () (return-from a x)) x)))", "(funcall #'(lambda (&rest r) r) 1 2 3)", "(funcall #'(lambda (&optional (a 1 b) &key (c 2 d)) (list a b c d)) 5)", "(labels ((f () (g)) (g () 5)) (f))", "(progn new-symbol)", "(progn (setq new-symbol 5) (let ((new-symbol 6)) (declare (special new-symbol)) new-symbol))", "(new-function 1)", "#'new-function", "(progv '(s r) '(1 2) (list s r))", "(progv 5 nil 1)", "(tagbody a #'(lambda () (go a)))", "(catch 'new-tag (throw 'new-tag (list 1)))", "(unwind-protect (cons 1 2) (list 1 2))", "(multiple-value-call #'list 1 (values 2 3))", "(progn (%fset '%fault #'(lambda (type data) (throw 'out (cons type data)))) (catch 'out (car 1)))", "(unwind-protect (car 1) (throw 'nowhere 5))",
	} {
		w := newWorld(t)
		w.SetValue(symbol(t, w, "S"), fix(0))
		want := run(t, w, s)
		enough := false
		for left := range 200 {
			w := newWorld(t)
			w.SetValue(symbol(t, w, "S"), fix(0))
			fill(t, w, left)
			end, _ := meaning.Run(w, tree(t, s), 1000)
			got := told(t, w, end)
			if got != "limit 11" && got != want || enough && got != want {
				t.Fatalf("%s with %d words = %s, want %s", s, left, got, want)
			}
			enough = got == want
		}
		if !enough {
			t.Errorf("%s takes more words than 200", s)
		}
	}
}

// A closure keeps its tree as it was.
func TestP21_1Memory(t *testing.T) {
	c := tree(t, "#'(lambda (&key ((k x) 1)) (let ((y x)) (let ((s 5)) (declare (special s)) (tagbody a) (list '(1 2) y s))))")
	w := newWorld(t)
	end, _ := meaning.Run(w, c, 100)
	var spoil func(c *api.Core)
	spoil = func(c *api.Core) {
		for i := range c.Vars {
			c.Vars[i] += 7
		}
		for i := range c.Syms {
			c.Syms[i].Text = "OTHER"
		}
		for i := range c.Pars {
			c.Pars[i].Var, c.Pars[i].Key.Text = 77, "OTHER"
		}
		for i := range c.Data.Kids {
			c.Data.Kids[i].Text = "9"
		}
		for i := range c.Kids {
			spoil(&c.Kids[i])
			c.Kids[i].N += 3
		}
	}
	spoil(&c)
	if x, _ := meaning.Apply(w, end.Values[0], []heap.Word{symbol(t, w, "K"), fix(8)}, 100); told(t, w, x) != "((1 2) 8 5)" {
		t.Errorf("a closure of a tree that was changed later: %s", told(t, w, x))
	}
}

// What is not begun has no effect.
func TestP21_4Effects(t *testing.T) {
	w := newWorld(t)
	before, used := w.Symbols().Text(), w.Heap().Used()
	c := tree(t, "(progn (car '(new)) 1)")
	for limit := range 2 {
		if end, _ := meaning.Run(w, c, limit); end.Code != api.ErrSteps || w.Symbols().Text() != before || w.Heap().Used() != used {
			t.Errorf("with %d steps: %v", limit, end)
		}
	}
	if end, _ := meaning.Run(w, tree(t, "(labels ((f () 1)) 1)"), 1); end.Code != api.ErrSteps {
		t.Errorf("a lambda that is not begun: %v", end)
	}
}

// What a run may take is counted node by node and call by call.
func TestP21_4Counts(t *testing.T) {
	for _, x := range []struct {
		form  string
		steps int
	}{
		{"5", 1}, {"(progn)", 1}, {"(progn 1 2)", 3}, {"(if nil 1 2)", 3}, {"(car nil)", 3}, {"(car 1)", 3}, {"(let ((x 1)) x)", 3}, {"#'(lambda (x) x)", 1}, {"((lambda (x) x) 1)", 5}, {"((lambda (&optional (x 1)) x))", 5}, {"((lambda (&optional (x 1)) x) 5)", 5}, {"(labels ((f () 1)) (f))", 7}, {"(block a (return-from a 1))", 3}, {"(tagbody a b)", 4}, {"(catch 1 (throw 1 2))", 5}, {"(unwind-protect 1 2)", 3}, {"(multiple-value-call #'list 1)", 4}, {"(funcall 'car nil)", 4}, {"(funcall #'(lambda () 1))", 5}, {"x", 1},
	} {
		_, n := meaning.Run(newWorld(t), tree(t, x.form), 1000)
		if n != x.steps {
			t.Errorf("%s takes %d steps, want %d", x.form, n, x.steps)
		}
	}
	for _, limit := range []int{0, -7} {
		if end, n := meaning.Run(newWorld(t), tree(t, "5"), limit); end.Kind != lib.EndLimit || end.Code != api.ErrSteps || n != 0 {
			t.Errorf("with %d steps: %v in %d", limit, end, n)
		}
	}
	if end, n := meaning.Run(newWorld(t), tree(t, "(tagbody a (go a))"), 1<<40); end.Code != api.ErrSteps || n != api.MaxSteps {
		t.Errorf("with too many steps: %v in %d", end, n)
	}
}

func TestP21_1Depth(t *testing.T) {
	// Each list is a frame while its last element is evaluated.
	nested := func(n int) string { return strings.Repeat("(list ", n) + "1" + strings.Repeat(")", n) }
	if got := run(t, newWorld(t), nested(40)); !strings.HasSuffix(got, ")))") {
		t.Errorf("nested lists: %s", got)
	}
	define := "(%fset 'f #'(lambda (n) (if (= n 0) nil (list (f (- n 1))))))"
	for _, x := range []struct {
		n    int
		want string
	}{{1997, ""}, {1998, "limit 12"}, {5000, "limit 12"}} { // one frame for each list, one for PROGN, and two for (= n 0)
		w := newWorld(t)
		run(t, w, define)
		end, _ := meaning.Run(w, tree(t, "(progn (f "+strconv.Itoa(x.n)+") nil)"), api.MaxSteps)
		if x.want == "" && end.Kind != lib.EndValues || x.want != "" && told(t, w, end) != x.want {
			t.Errorf("%d calls within one another: %v", x.n, end.Kind)
		}
	}
}
