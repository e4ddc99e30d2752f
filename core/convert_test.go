package core_test

import (
	"slices"
	"strings"
	"testing"

	"commonform/api"
	"commonform/core"
	"commonform/forms"
	"commonform/reader"
)

// read reads a form whose symbols are those of COMMON-LISP.
func read(t *testing.T, s string) api.Form {
	t.Helper()
	r, _, e := reader.One(reader.Standard("COMMON-LISP"), s)
	if e != api.OK {
		t.Fatalf("%s: %v", s, e)
	}
	return r.Form
}

// readAll reads the elements of a list.
func readAll(t *testing.T, s string) []api.Form {
	t.Helper()
	l, ok := forms.Items(read(t, "("+s+")"))
	if !ok {
		t.Fatal(s)
	}
	return l
}

// short writes symbols of COMMON-LISP without their home, and NIL, T and integers without all that is said of every one of them.
func short(s string) string {
	return strings.NewReplacer("1:COMMON-LISP:", "", "const 2::", "const ").Replace(s)
}

// converted returns the text of a form's tree, or the error.
func converted(t *testing.T, s, specials string) string {
	t.Helper()
	c, e := core.Convert(read(t, s), readAll(t, specials))
	if e != api.OK {
		return "! " + e.Error()
	}
	out, e := core.Show(c)
	if e != api.OK {
		t.Fatalf("Convert(%s) is not right: %v", s, e)
	}
	return short(out)
}

func testConvert(t *testing.T, specials string, pairs ...string) {
	t.Helper()
	for i := 0; i < len(pairs); i += 2 {
		if got := converted(t, pairs[i], specials); got != pairs[i+1] {
			t.Errorf("Convert(%s) = %s, want %s", pairs[i], got, pairs[i+1])
		}
	}
}

func TestP19_1ConvertAtoms(t *testing.T) {
	testConvert(t, "",
		"5", "(const 5)",
		"-1/2", "(const 3::-1/2)",
		"#C(1 2)", "(const 6::(2::1 2::2))",
		"#\\a", "(const 7::a)",
		"\"a b\"", "(const 8::a~20b)",
		"#*101", "(const 9::101)",
		"#(1 x)", "(const 11::(2::1 X))",
		"#2a((1) (2))", "(const 12::2~201(2::1 2::2))",
		"nil", "(const NIL)",
		"t", "(const T)",
		":k", "(const 1:KEYWORD:K)",
		"x", "(special X)",
		"u::nil", "(special 1:U:NIL)",
		"&rest", "(special &REST)",
		"#:x", "! 2",
		"'x", "(const X)",
		"'(1 . y)", "(const 10::(2::1 Y))",
		"'#:x", "(const 1::X)",
		"'nil", "(const NIL)",
		"(quote)", "! 2",
		"(quote 1 2)", "! 2",
		"(quote . 1)", "! 2",
		"'(u::|é;| \"\")", "(const 10::(1:U:~c3~a9~3b 8:: NIL))",
	)
}

func TestP19_1ConvertForms(t *testing.T) {
	testConvert(t, "",
		"(if 1 2 3)", "(if (const 1) (const 2) (const 3))",
		"(if 1 2)", "(if (const 1) (const 2) (const NIL))",
		"(if 1)", "! 2",
		"(if 1 2 3 4)", "! 2",
		"(if 1 2 . 3)", "! 2",
		"(progn)", "(progn)",
		"(progn 1)", "(const 1)",
		"(progn 1 2)", "(progn (const 1) (const 2))",
		"(progn . 1)", "! 2",
		"(setq)", "(const NIL)",
		"(setq x 1)", "(setspecial X (const 1))",
		"(setq x 1 y 2)", "(progn (setspecial X (const 1)) (setspecial Y (const 2)))",
		"(setq x)", "! 2",
		"(setq x 1 y)", "! 2",
		"(setq nil 1)", "! 2",
		"(setq t 1)", "! 2",
		"(setq :k 1)", "! 2",
		"(setq &key 1)", "! 2",
		"(setq &optional 1)", "! 2",
		"(setq (x) 1)", "! 2",
		"(setq 5 1)", "! 2",
		"(setq #:x 1)", "! 2",
		"(catch 'a)", "(catch (const A) (progn))",
		"(catch 'a 1 2)", "(catch (const A) (progn (const 1) (const 2)))",
		"(catch)", "! 2",
		"(throw 'a 1)", "(throw (const A) (const 1))",
		"(throw 'a)", "! 2",
		"(throw 'a 1 2)", "! 2",
		"(unwind-protect 1)", "(protect (const 1) (progn))",
		"(unwind-protect 1 2)", "(protect (const 1) (const 2))",
		"(unwind-protect 1 2 3)", "(protect (const 1) (progn (const 2) (const 3)))",
		"(unwind-protect)", "! 2",
		"(multiple-value-call 'f)", "(valuescall (const F))",
		"(multiple-value-call #'f 1 2)", "(valuescall (function F) (const 1) (const 2))",
		"(multiple-value-call)", "! 2",
		"(multiple-value-prog1 1)", "(valuesfirst (const 1))",
		"(multiple-value-prog1 1 2 3)", "(valuesfirst (const 1) (const 2) (const 3))",
		"(multiple-value-prog1)", "! 2",
		"(progv 1 2)", "(progv (const 1) (const 2) (progn))",
		"(progv 1 2 3 4)", "(progv (const 1) (const 2) (progn (const 3) (const 4)))",
		"(progv 1)", "! 2",
		"(the integer x)", "(special X)",
		"(the (bad . type) 5)", "(const 5)",
		"(the integer)", "! 2",
		"(the integer 1 2)", "! 2",
		"(load-time-value 5)", "(const 5)",
		"(load-time-value x y)", "(special X)",
		"(load-time-value)", "! 2",
		"(load-time-value 1 2 3)", "! 2",
		"(locally 1 2)", "(progn (const 1) (const 2))",
		"(u::if 1)", "(callglobal 1:U:IF (const 1))",
		"(lambda (x) x)", "(callglobal LAMBDA (callglobal X) (special X))",
		"(declare (special x))", "(callglobal DECLARE (callglobal SPECIAL (special X)))",
	)
}

func TestP19_1ConvertCalls(t *testing.T) {
	testConvert(t, "",
		"(f)", "(callglobal F)",
		"(f 1 x)", "(callglobal F (const 1) (special X))",
		"(f . 1)", "! 2",
		"(nil 1)", "! 2",
		"(t)", "! 2",
		"(:k)", "! 2",
		"(#:f)", "! 2",
		"(5 1)", "! 2",
		"((f) 1)", "! 2",
		"((u::lambda ()) 1)", "! 2",
		"((lambda) 1)", "! 2",
		"((lambda (x) x) 1)", "(call (lambda 0 {1 0 -1 -} (var 0)) (const 1))",
		"((lambda ()))", "(call (lambda 0 (progn)))",
		"(flet ((f () 1)) (f 2 x))", "(let [0] (lambda 0 (block 0 (const 1))) (call (var 0) (const 2) (special X)))",
		"#'f", "(function F)",
		"#'nil", "! 2",
		"#'t", "! 2",
		"#':k", "! 2",
		"#'#:f", "! 2",
		"#'5", "! 2",
		"#'(setf f)", "! 2",
		"#'(lambda)", "! 2",
		"#'(lambda 5)", "! 2",
		"#'(lambda (5))", "! 2",
		"#'(lambda ((x)))", "! 2",
		"#'(lambda (x . y))", "! 2",
		"#'(lambda () . 5)", "! 2",
		"#'(lambda (&whole x))", "! 2",
		"#'(lambda (x x))", "! 8",
		"(function)", "! 2",
		"(function f g)", "! 2",
	)
}

func TestP19_1ConvertLet(t *testing.T) {
	testConvert(t, "s r",
		"(let ())", "(progn)",
		"(let () 1)", "(const 1)",
		"(let* () 1 2)", "(progn (const 1) (const 2))",
		"(let* ())", "(progn)",
		"(let ((#:x 1)) (setq #:x 2))", "(let [0] (const 1) (set 0 (const 2)))",
		"(let (x) x)", "(let [0] (const NIL) (var 0))",
		"(let ((x)) x)", "(let [0] (const NIL) (var 0))",
		"(let ((x 1) (y x)) y)", "(let [0 1] (const 1) (special X) (var 1))",
		"(let* ((x 1) (y x)) y)", "(let [0] (const 1) (let [1] (var 0) (var 1)))",
		"(let ((x (let ((y 1)) y))) x)", "(let [1] (let [0] (const 1) (var 0)) (var 1))",
		"(let ((x 1)) (let ((x x)) (setq x x)) x)", "(let [0] (const 1) (progn (let [1] (var 0) (set 1 (var 1))) (var 0)))",
		"(let ((x 1)) (setq y x x y))", "(let [0] (const 1) (progn (setspecial Y (var 0)) (set 0 (special Y))))",
		"(let ((#:x 1)) #:x)", "(let [0] (const 1) (var 0))",
		"(let ((x 1) (x 2)) x)", "! 8",
		"(let (x x) x)", "! 8",
		"(let* ((x 1) (x x)) x)", "(let [0] (const 1) (let [1] (var 0) (var 1)))",
		"(let (nil))", "! 2",
		"(let ((t 1)))", "! 2",
		"(let (:k))", "! 2",
		"(let (&rest))", "! 2",
		"(let (()))", "! 2",
		"(let ((x 1 2)))", "! 2",
		"(let ((x . 1)))", "! 2",
		"(let ((5 1)))", "! 2",
		"(let 5)", "! 2",
		"(let (x . y))", "! 2",
		"(let)", "! 2",
		"(let*)", "! 2",
		"(let* (()))", "! 2",
		"(let x)", "! 2",

		"(let ((s 1)) s)", "(bind [S] (const 1) (special S))",
		"(let ((s 1) (r s)) r)", "(bind [S R] (const 1) (special S) (special R))",
		"(let ((s 1) (x 2) (r 3)) x)", "(let [0 1 2] (const 1) (const 2) (const 3) (bind [S R] (var 0) (var 2) (var 1)))",
		"(let* ((s 1) (x s) (r x)) r)", "(bind [S] (const 1) (let [0] (special S) (bind [R] (var 0) (special R))))",
		"(let ((s 1) (s 2)))", "! 8",
		"(setq s 1)", "(setspecial S (const 1))",

		"(let ((x 1)) (declare (special x)) x)", "(bind [X] (const 1) (special X))",
		"(let ((x 1)) (let ((y x)) (declare (special x)) x))", "(let [0] (const 1) (let [1] (var 0) (special X)))",
		"(let ((x 1)) (let ((x 2)) (declare (special x)) x) x)", "(let [0] (const 1) (progn (bind [X] (const 2) (special X)) (var 0)))",
		"(let ((x 1)) (declare (special x)) (let ((x 2)) x))", "(bind [X] (const 1) (let [0] (const 2) (var 0)))",
		"(let ((x 1)) (declare (ignore x) (special) (type (foo . bar) x)) (declare) x)", "(let [0] (const 1) (var 0))",
		"(let* ((x 1) (y x) (x y)) (declare (special x)) x)", "(bind [X] (const 1) (let [0] (special X) (bind [X] (var 0) (special X))))",
		"(let* ((y x) (x 1)) (declare (special x)) (list x y))", "(let [0] (special X) (bind [X] (const 1) (callglobal LIST (special X) (var 0))))",
		"(let ((x 1)) (let* ((y x)) (declare (special x)) (setq x y)))", "(let [0] (const 1) (let [1] (var 0) (setspecial X (var 1))))",
		"(let ((x 1)) (locally (declare (special x)) x))", "(let [0] (const 1) (special X))",
		"(let ((x 1)) (flet () (declare (special x)) x))", "(let [0] (const 1) (let [] (special X)))",
		"(let ((x 1)) 2 (declare (special x)))", "(let [0] (const 1) (progn (const 2) (callglobal DECLARE (callglobal SPECIAL (var 0)))))",
		"(let ((x 1)) (progv 2 3 (declare)))", "(let [0] (const 1) (progv (const 2) (const 3) (callglobal DECLARE)))",
	)
}

func TestP19_1ConvertDeclarations(t *testing.T) {
	for _, s := range []string{"(declare . x)", "(declare (special x) . x)", "(declare x)", "(declare (special . x))", "(declare ())", "(declare (5))", "(declare ((special) x))", "(declare (special x)) (declare 5)", "(declare (special 5))", "(declare (special nil))", "(declare (special :k))"} {
		for _, form := range []string{"(let () %)", "(let* (x) % 1)", "(locally %)", "#'(lambda () % 1)", "((lambda () %))", "(flet ((f () %)))", "(flet () %)", "(labels ((f () 1) (g (x) % 1)) 1)", "(labels () %)"} {
			if got := converted(t, strings.ReplaceAll(form, "%", s), ""); got != "! 211" {
				t.Errorf("%s in %s: %s", s, form, got)
			}
		}
	}
	testConvert(t, "#:z",
		"(let ((#:x 1)) (declare (special #:x)) 1)", "! 2",
		"(let* ((#:x 1)) (declare (special #:x)) 1)", "! 2",
		"(let ((#:z 1)) 1)", "! 2",
		"#'(lambda (#:z) 1)", "! 2",
		"#'(lambda (&aux #:z) 1)", "! 2",
		"(locally (declare (special #:x)) 1)", "(const 1)",
		"(locally (declare (special #:x)) #:x)", "! 2",
		"(let ((#:x 1)) (locally (declare (special #:x)) (setq #:x 1)))", "! 2",
	)
}

func TestP19_1ConvertFunctions(t *testing.T) {
	testConvert(t, "s",
		"(let ((x 1)) (function (lambda (y) x)))", "(let [0] (const 1) (lambda 0 {1 1 -1 -} (var 0)))",
		"#'(lambda (a &optional b (c a d) &rest e) 1)", "(lambda 0 {1 0 -1 -} {2 1 -1 -} {2 2 3 -} {3 4 -1 -} (const NIL) (var 0) (const 1))",
		"#'(lambda (&key a ((b c) a d)) c)", "(lambda 0 {4 0 -1 1:KEYWORD:A} {4 1 2 B} (const NIL) (var 0) (var 1))",
		"#'(lambda (&key a &allow-other-keys))", "(lambda 1 {4 0 -1 1:KEYWORD:A} (const NIL) (progn))",
		"#'(lambda (&key &allow-other-keys))", "(lambda 1 (progn))",
		"#'(lambda (&key))", "(lambda 0 (progn))",
		"#'(lambda (x &aux (y x) (z y)) z)", "(lambda 0 {1 0 -1 -} (let [1] (var 0) (let [2] (var 1) (var 2))))",
		"#'(lambda (&optional (a (let ((z 1)) z)) (b a)) b)", "(lambda 0 {2 1 -1 -} {2 2 -1 -} (let [0] (const 1) (var 0)) (var 1) (var 2))",
		"#'(lambda (s) s)", "(lambda 0 {1 0 -1 -} (bind [S] (var 0) (special S)))",
		"#'(lambda (s &optional (x s)) (list s x))", "(lambda 0 {1 0 -1 -} {2 1 -1 -} (var 0) (bind [S] (var 0) (callglobal LIST (special S) (var 1))))",
		"#'(lambda (&optional (x 1 s) y) (declare (special y)) (list s x))", "(lambda 0 {2 0 1 -} {2 2 -1 -} (const 1) (const NIL) (bind [S Y] (var 1) (var 2) (callglobal LIST (special S) (var 0))))",
		"#'(lambda (s &aux (y s)) (declare (special y)) y)", "(lambda 0 {1 0 -1 -} (bind [S] (var 0) (bind [Y] (special S) (special Y))))",
		"(let ((z 1)) #'(lambda (&optional (x z) &aux (y z)) (declare (special z)) z))", "(let [0] (const 1) (lambda 0 {2 1 -1 -} (var 0) (let [2] (var 0) (special Z))))",
		"(flet ((f (x) x)) (f 2))", "(let [1] (lambda 0 {1 0 -1 -} (block 0 (var 0))) (call (var 1) (const 2)))",
		"(labels ((f (x) (f x))) (f 2))", "(labels [0] (lambda 0 {1 1 -1 -} (block 0 (call (var 0) (var 1)))) (call (var 0) (const 2)))",
		"(flet ((f (x) (f x))) #'f)", "(let [1] (lambda 0 {1 0 -1 -} (block 0 (callglobal F (var 0)))) (var 1))",
		"(flet ((f () 1) (g () 2)) (g) f)", "(let [0 1] (lambda 0 (block 0 (const 1))) (lambda 0 (block 1 (const 2))) (progn (call (var 1)) (special F)))",
		"(labels ((f () (g)) (g () (f))) 1)", "(labels [0 1] (lambda 0 (block 0 (call (var 1)))) (lambda 0 (block 1 (call (var 0)))) (const 1))",
		"(flet ((f () (return-from f 1))))", "(let [0] (lambda 0 (block 0 (return 0 (const 1)))) (progn))",
		"(flet ((f (&optional (x (return-from f 1))))) 1)", "! 210",
		"(flet ((f (x &aux (y 1)) (declare (special x)) y)))", "(let [2] (lambda 0 {1 0 -1 -} (bind [X] (var 0) (let [1] (const 1) (block 0 (var 1))))) (progn))",
		"(flet ((if () 1)) (if 1 2) #'if)", "(let [0] (lambda 0 (block 0 (const 1))) (progn (if (const 1) (const 2) (const NIL)) (var 0)))",
		"(flet ((#:f () 1)) (#:f))", "(let [0] (lambda 0 (block 0 (const 1))) (call (var 0)))",
		"(flet ((f () 1)) (flet ((f () (f))) (f)))", "(let [0] (lambda 0 (block 0 (const 1))) (let [1] (lambda 0 (block 1 (call (var 0)))) (call (var 1))))",
		"(let ((f 1)) (flet ((f () f)) (f)))", "(let [0] (const 1) (let [1] (lambda 0 (block 0 (var 0))) (call (var 1))))",
		"(flet () 1)", "(let [] (const 1))",
		"(labels ())", "(labels [] (progn))",
		"(flet)", "! 2",
		"(flet 5)", "! 2",
		"(flet (f))", "! 2",
		"(flet ((f)))", "! 2",
		"(flet ((f . 5)))", "! 2",
		"(flet ((f 5)))", "! 2",
		"(flet ((5 ())))", "! 2",
		"(flet ((nil ())))", "! 2",
		"(labels ((t ())))", "! 2",
		"(labels ((:k ())))", "! 2",
		"(labels (((setf f) ())))", "! 2",
		"(labels ((f (x x))))", "! 8",
		"(labels ((f () . 5)))", "! 2",
		"(labels ((f ()) . 5))", "! 2",
	)
}

func TestP19_1ConvertExits(t *testing.T) {
	testConvert(t, "",
		"(block a)", "(block 0 (progn))",
		"(block nil (return-from nil))", "(block 0 (return 0 (const NIL)))",
		"(block :k 1 (return-from :k 2))", "(block 0 (progn (const 1) (return 0 (const 2))))",
		"(block a (block b (return-from a (return-from b 1))))", "(block 0 (block 1 (return 0 (return 1 (const 1)))))",
		"(block a (block a (return-from a)))", "(block 0 (block 1 (return 1 (const NIL))))",
		"(block a #'(lambda () (return-from a)))", "(block 0 (lambda 0 (return 0 (const NIL))))",
		"(block)", "! 2",
		"(block 5)", "! 2",
		"(block (a))", "! 2",
		"(return-from)", "! 2",
		"(return-from 5)", "! 2",
		"(return-from a)", "! 210",
		"(return-from a 1 2)", "! 2",
		"(return-from a (if))", "! 210",
		"(progn (block a) (return-from a))", "! 210",
		"(block #:a (return-from #:a))", "(block 0 (return 0 (const NIL)))",
		"(block a (return-from u::a))", "! 210",
		"(tagbody)", "(tagbody [] (progn))",
		"(tagbody a (go a))", "(tagbody [0] (progn) (go 0))",
		"(tagbody 1 2 3 \"x\" (f) -4)", "(tagbody [0 1 2 3] (progn) (progn) (progn) (progn (const 8::x) (callglobal F)) (progn))",
		"(tagbody (f) (g) nil t :k (go nil) (go :k) (go t))", "(tagbody [0 1 2] (progn (callglobal F) (callglobal G)) (progn) (progn) (progn (go 0) (go 2) (go 1)))",
		"(tagbody a (tagbody a (go a) b) (tagbody b (go a)))", "(tagbody [0] (progn) (progn (tagbody [1 2] (progn) (go 1) (progn)) (tagbody [3] (progn) (go 0))))",
		"(tagbody (go 5) 5)", "(tagbody [0] (go 0) (progn))",
		"(tagbody a #'(lambda () (go a)))", "(tagbody [0] (progn) (lambda 0 (go 0)))",
		"(tagbody a b a)", "! 8",
		"(tagbody 1 (f) 1)", "! 8",
		"(tagbody nil nil)", "! 8",
		"(tagbody . a)", "! 2",
		"(go a)", "! 210",
		"(tagbody 5 (go 6))", "! 210",
		"(tagbody a (go u::a))", "! 210",
		"(progn (tagbody a) (go a))", "! 210",
		"(go)", "! 2",
		"(go a b)", "! 2",
		"(go (a))", "! 2",
		"(go \"a\")", "! 2",
		"(go 1/2)", "! 2",
		"(block a (tagbody a (return-from a) (go a)))", "(block 0 (tagbody [0] (progn) (progn (return 0 (const NIL)) (go 0))))",
	)
}

// The first error counts: of a form its own one, then those of its parts.
func TestP19_1ConvertOrder(t *testing.T) {
	testConvert(t, "",
		"(progn (go a) (if))", "! 210",
		"(progn (if) (go a))", "! 2",
		"(if (go a))", "! 2",
		"(setq x (go a) nil 1)", "! 2",
		"(setq #:x (go a))", "! 2",
		"(let ((x (go a)) (x 1)))", "! 8",
		"(let ((x 1) (x 2) 5))", "! 8",
		"(let ((5 2) (x 1) (x 1)))", "! 2",
		"(let ((x (go a))) (declare 5))", "! 211",
		"(let ((x (go a)) 5) (declare 5))", "! 2",
		"(let ((x (go a))) (if))", "! 210",
		"(let* ((x (if)) (y (go a))))", "! 2",
		"#'(lambda (&optional (x (go a))) (declare 5))", "! 211",
		"#'(lambda (x x) (declare 5))", "! 8",
		"#'(lambda (&optional (x (go a))) (if))", "! 210",
		"(flet ((f () (if)) (g (x x))))", "! 8",
		"(flet ((f () (if))) (declare 5))", "! 211",
		"(flet ((f () (declare 5)) (g (x x))))", "! 211",
		"(flet ((f (x x)) (g () (declare 5))))", "! 8",
		"(flet ((f () (if))) (go a))", "! 2",
		"(labels ((f () (go a))) (if))", "! 210",
		"(tagbody a (if) a)", "! 8",
		"(tagbody (go b) (if))", "! 210",
		"(:k (go a))", "! 2",
		"((lambda (x x)) (if))", "! 8",
		"((lambda () (go a)) (if))", "! 210",
		"(unwind-protect (if) (go a))", "! 2",
		"(throw (go a))", "! 2",
		"(throw 'a (go a) 1)", "! 2",
		"(let ((#:x (go a))) (declare (special #:x)))", "! 2",
		"(let* ((#:x (go a))) (declare (special #:x)))", "! 2",
		"#'(lambda (&optional (#:x (go a))) (declare (special #:x)))", "! 2",
		"(locally (declare (special #:x)) (go a))", "! 210",
		"(progv (go a) (if))", "! 210",
	)
}

func TestP19_1ConvertWrong(t *testing.T) {
	for _, x := range []struct {
		f api.Form
		e api.Errno
	}{
		{api.Form{}, api.ErrForm},
		{api.Form{Kind: api.FormInt, Text: "01"}, api.ErrForm},
		{api.Form{Kind: api.FormRef, Text: "0"}, forms.ErrLabel},
		{read(t, "#1=5"), api.ErrForm},
		{read(t, "'(#1=(a) #1#)"), api.ErrForm},
		{read(t, "(f '#1=(a . #1#))"), api.ErrForm},
		{read(t, "(go #1=a)"), api.ErrForm},
	} {
		if c, e := core.Convert(x.f, nil); e != x.e || c.Op != 0 {
			t.Errorf("Convert(%v) = %v, %v", x.f, c, e)
		}
	}
}

func TestP19_1ConvertLarge(t *testing.T) {
	many := func(n int, f string) api.Form {
		return forms.Call("F", slices.Repeat([]api.Form{read(t, f)}, n))
	}
	if c, e := core.Convert(many(1997, "1"), nil); e != api.OK || core.Size(c) != 1998 {
		t.Errorf("a large form: %v", e)
	}
	if _, e := core.Convert(many(1998, "1"), nil); e != api.ErrSize {
		t.Errorf("a form that is too large: %v", e)
	}
	if c, e := core.Convert(many(399, "(if 1 2)"), nil); e != api.OK || core.Size(c) != 1597 {
		t.Errorf("a large tree: %v", e)
	}
	if c, e := core.Convert(many(499, "(if)"), nil); e != api.ErrForm {
		t.Errorf("a large form with an error: %v, %v", c, e)
	}
	if _, e := core.Convert(many(300, "(let (x))"), nil); e != api.OK {
		t.Errorf("a tree with many variables: %v", e)
	}
	bindings := func(n int, special string) api.Form {
		return read(t, "(let* ("+strings.Repeat("(x 1) ", n)+") "+special+" 5)")
	}
	if c, e := core.Convert(bindings(99, ""), nil); e != api.OK || core.Size(c) != 199 {
		t.Errorf("a tree of the greatest depth: %v", e)
	}
	if _, e := core.Convert(bindings(100, ""), nil); e != api.ErrSize {
		t.Errorf("a tree that is too deep: %v", e)
	}
	if _, e := core.Convert(bindings(100, "(go a)"), nil); e != core.ErrScope {
		t.Errorf("a tree that is too deep, with another error: %v", e)
	}
	if _, e := core.Convert(bindings(100, "(declare (special x))"), nil); e != api.ErrSize {
		t.Errorf("a tree that is too deep with special variables: %v", e)
	}
}

// Names of lexical variables, local functions, blocks and tags do not matter.
func TestP19_2Names(t *testing.T) {
	for _, s := range []string{
		"(let ((V1 1) (V2 V3)) (setq V1 V2) #'(lambda (V1 &optional (V4 V2 V5) &rest V6) (list V1 V4 V5 V6 V7)))",
		"(flet ((F1 (V1) (return-from F1 (F3 V1)))) (labels ((F2 () (F1 #'F2))) (F2)))",
		"(block B1 (tagbody T1 (block B2 (return-from B1 (go T1))) T2 (go T2)))",
		"(let* ((V1 1) (V1 V1)) (block V1 (tagbody V1 (go V1))))",
		"(let ((V1 1)) (declare (special V3)) (let ((V2 V1)) (setq V3 V2)))",
	} {
		plain := strings.NewReplacer("V3", "z", "V7", "y", "T1", "t1", "T2", "t2")
		one := converted(t, plain.Replace(s), "")
		other := strings.NewReplacer("V1", "u::a", "V2", "#:q", "V4", "list", "V5", "if", "V6", "u::r", "V3", "z", "V7", "y", "F1", "u::car", "F2", "p::f", "F3", "f3", "B1", "nil", "B2", "t", "T1", "12", "T2", "nil").Replace(s)
		if two := converted(t, other, ""); two != one || strings.HasPrefix(one, "!") {
			t.Errorf("%s: %s\n%s: %s", s, one, other, two)
		}
	}
}
