package lambda_test

import (
	"slices"
	"strings"
	"testing"

	"commonform/api"
	"commonform/forms"
	"commonform/lambda"
	"commonform/printer"
	"commonform/reader"
)

// read reads a form whose symbols are those of COMMON-LISP.
func read(t *testing.T, s string) api.Form {
	t.Helper()
	r, _, e := reader.One(reader.Standard("COMMON-LISP"), s)
	if e != api.OK {
		t.Fatalf("%s: %v", s, e)
	}
	return r.Form
}

func text(f api.Form) string {
	if f.Kind == 0 {
		return "-"
	}
	s, e := printer.Text(f, true)
	if e != api.OK {
		return e.Error()
	}
	return s
}

func texts(l []api.Form) string {
	var out []string
	for _, f := range l {
		out = append(out, text(f))
	}
	return strings.Join(out, " ")
}

// described returns what a list says, item by item: kind, variable or pattern, init, given, key.
func described(l lambda.List) string {
	var out []string
	for _, x := range l.Items {
		target := text(x.Var)
		if x.Pattern != nil {
			target = "[" + described(*x.Pattern) + "]"
			if x.Var.Kind != 0 {
				target = "both"
			}
		}
		out = append(out, string(rune('0'+x.Kind))+" "+target+" "+text(x.Init)+" "+text(x.Given)+" "+text(x.Key))
	}
	s := strings.Join(out, "; ")
	if l.Keys {
		s += " keys"
	}
	if l.Allow {
		s += " allow"
	}
	return s
}

func parse(t *testing.T, s string, macro bool) lambda.List {
	t.Helper()
	l, e := lambda.Parse(read(t, s), macro)
	if e != api.OK {
		t.Fatalf("Parse(%s, %v): %v", s, macro, e)
	}
	return l
}

func TestP18_1Parse(t *testing.T) {
	for _, x := range []struct{ list, want string }{
		{"()", ""},
		{"(a b)", "1 a nil - -; 1 b nil - -"},
		{"(u::nil #:x list &optional)", "1 u::nil nil - -; 1 #:x nil - -; 1 list nil - -"},
		{"(u::&rest &rest u::&key)", "1 u::&rest nil - -; 3 u::&key nil - -"},
		{"(a &optional b (c) (d 1) (e (f) g))", "1 a nil - -; 2 b nil - -; 2 c nil - -; 2 d 1 - -; 2 e (f) g -"},
		{"(&rest r)", "3 r nil - -"},
		{"(&body r)", "3 r nil - -"},
		{"(&optional a &rest r &key)", "2 a nil - -; 3 r nil - - keys"},
		{"(&key a (b) (c 1) (u::d \"x\" e) ((k f)) ((:h g) nil i) ((nil j)) ((&rest k)))", "4 a nil - :a; 4 b nil - :b; 4 c 1 - :c; 4 u::d \"x\" e :d; 4 f nil - k; 4 g nil i :h; 4 j nil - nil; 4 k nil - &rest keys"},
		{"(&key &allow-other-keys)", " keys allow"},
		{"(&key a &allow-other-keys &aux)", "4 a nil - :a keys allow"},
		{"(a &aux b (c) (d a))", "1 a nil - -; 5 b nil - -; 5 c nil - -; 5 d a - -"},
		{"(&optional (a #1=(1)) (b #1#))", "2 a (1) - -; 2 b 30 - -"}, // a reference alone has no text
	} {
		for _, macro := range []bool{false, true} {
			if s := described(parse(t, x.list, macro)); s != x.want {
				t.Errorf("Parse(%s, %v) = %s, want %s", x.list, macro, s, x.want)
			}
		}
	}
}

func TestP18_1ParseForMacros(t *testing.T) {
	for _, x := range []struct{ list, want string }{
		{"(&whole w a)", "6 w nil - -; 1 a nil - -"},
		{"(&whole w)", "6 w nil - -"},
		{"((a b) . c)", "1 [1 a nil - -; 1 b nil - -] nil - -; 3 c nil - -"},
		{"(())", "1 [] nil - -"},
		{"((a &optional . b) &optional . c)", "1 [1 a nil - -; 3 b nil - -] nil - -; 3 c nil - -"},
		{"(&optional ((a &key b) '(1) c) (() 2))", "2 [1 a nil - -; 4 b nil - :b keys] '1 c -; 2 [] 2 - -"},
		{"(&key ((:k (a . b)) x c) ((d ())))", "4 [1 a nil - -; 3 b nil - -] x c :k; 4 [] nil - d keys"},
		{"(&environment e a)", "7 e nil - -; 1 a nil - -"},
		{"(&whole w &environment e . r)", "6 w nil - -; 7 e nil - -; 3 r nil - -"},
		{"(a &environment e b)", "1 a nil - -; 7 e nil - -; 1 b nil - -"},
		{"(&optional &environment e a)", "7 e nil - -; 2 a nil - -"},
		{"(&rest r &environment e &key a)", "3 r nil - -; 7 e nil - -; 4 a nil - :a keys"},
		{"(&key &environment e a &allow-other-keys)", "7 e nil - -; 4 a nil - :a keys allow"},
		{"(&key &allow-other-keys &environment e &aux a)", "7 e nil - -; 5 a nil - - keys allow"},
		{"(&aux &environment e a)", "7 e nil - -; 5 a nil - -"},
		{"((&key a) (&key (b) &aux c))", "1 [4 a nil - :a keys] nil - -; 1 [4 b nil - :b; 5 c nil - - keys] nil - -"},
	} {
		if s := described(parse(t, x.list, true)); s != strings.ReplaceAll(x.want, "'1", "'(1)") {
			t.Errorf("Parse(%s) = %s, want %s", x.list, s, x.want)
		}
		if _, e := lambda.Parse(read(t, x.list), false); e != api.ErrForm {
			t.Errorf("Parse(%s) for functions: %v", x.list, e)
		}
	}
}

func TestP18_1ParseErrors(t *testing.T) {
	for _, s := range []string{
		"a", "5", "#(a)", "t", "(t)", "(:k)", "(5)", "(\"a\")", "(&allow-other-keys)", "(&rest)", "(&rest nil)", "(&rest (a))", "(&rest &optional)", "(&rest a b)", "(&rest a &rest b)", "(&rest a &body b)", "(&rest a &optional b)",
		"(&optional &optional)", "(&optional nil)", "(&optional t)", "(&optional (a 1 b c))", "(&optional (a . 1))", "(&optional (a 1 t))", "(&optional (a 1 (b)))", "(&optional (5))", "(&optional \"a\")", "(&optional a &key &optional b)",
		"(&key nil)", "(&key (5))", "(&key ((:a)))", "(&key ((:a b c)))", "(&key ((5 b)))", "(&key (((a) b)))", "(&key (a 1 b c))", "(&key (a 1 :k))", "(&key :a)", "(&key &key)", "(&key &rest a)", "(&key &allow-other-keys a)", "(&key &allow-other-keys &allow-other-keys)", "(&key ((:a . b)))",
		"(&aux a &key b)", "(&aux (a 1 2))", "(&aux (a 1 b))", "(&aux (a . 1))", "(&aux ())", "(&aux &aux)", "(&aux :a)", "(&aux a &rest b)", "(&aux (5))", "(&aux ((a) 1))",
		"(a &whole w)", "(&whole)", "(&whole (a))", "(&whole nil)", "(&whole w &whole v)", "(&optional a &whole w)", "(&environment e &whole w)", "(&whole &environment e)",
		"(&environment)", "(&environment nil)", "(&environment e &environment f)", "(&rest &environment e r)",
		"(a . 5)", "(a . t)", "(a . :k)", "(&rest a . b)", "(&key a . b)", "(&key . b)", "(&aux . b)", "#1=(a)", "#1=(a . #1#)", "(#1=a)", "(#1=(a))", "(a . #1=b)",
	} {
		f := read(t, s)
		for _, macro := range []bool{false, true} {
			if l, e := lambda.Parse(f, macro); e != api.ErrForm || len(l.Items) > 0 || l.Keys || l.Allow {
				t.Errorf("Parse(%s, %v) = %v, %v", s, macro, described(l), e)
			}
		}
	}
	for _, s := range []string{"((&whole w a))", "((&environment e))", "(&optional ((&whole w) 1))", "((a . 5))", "((a &rest))", "(a (b (5)))", "(&optional ((t)))", "(&key ((:a (:b))))"} {
		if _, e := lambda.Parse(read(t, s), true); e != api.ErrForm {
			t.Errorf("Parse(%s): %v", s, e)
		}
	}
}

func TestP18_1ParseTwice(t *testing.T) {
	for _, s := range []string{"(a a)", "(a &optional a)", "(a &optional (b 1 a))", "(&optional (a 1 a))", "(a &rest a)", "(a &key a)", "(&key (a 1 b) (b))", "(&key ((:x a)) ((:x b)))", "(&key x ((:x y)))", "(a &aux a)", "(&aux a a)", "(#:a #:a)"} {
		for _, macro := range []bool{false, true} {
			if _, e := lambda.Parse(read(t, s), macro); e != api.ErrTwice {
				t.Errorf("Parse(%s, %v): %v", s, macro, e)
			}
		}
	}
	for _, s := range []string{"(a (b a))", "((a) (b (c (a))))", "(&whole a a)", "(a &environment a)", "(a . a)", "((&key a ((:a b))))", "(&optional ((a b) 1 b))"} {
		if _, e := lambda.Parse(read(t, s), true); e != api.ErrTwice {
			t.Errorf("Parse(%s): %v", s, e)
		}
	}
	for _, s := range []string{"(a a . 5)", "(a a (5))", "(&key a a &key)", "(a a &rest)"} {
		if _, e := lambda.Parse(read(t, s), true); e != api.ErrForm {
			t.Errorf("Parse(%s), where all else is not right: %v", s, e)
		}
	}
	parse(t, "(a u::a #:a)", false)
	parse(t, "(&key x ((x y)) ((u::x z)))", false)
	parse(t, "(a (&key x) (&key ((:x y))))", true)
}

func TestP18_1ParseForms(t *testing.T) {
	wrong := api.Form{Kind: api.FormCons, Kids: []api.Form{{Kind: api.FormInt, Text: "01"}, forms.Nil()}}
	if _, e := lambda.Parse(wrong, false); e != api.ErrForm {
		t.Errorf("Parse of a form that is not right: %v", e)
	}
	if _, e := lambda.Parse(api.Form{Kind: api.FormRef, Text: "1"}, false); e != forms.ErrLabel {
		t.Errorf("Parse of a reference: %v", e)
	}
	deep := forms.Symbol("U", "A")
	for range 100 {
		deep = forms.List([]api.Form{deep})
	}
	if _, e := lambda.Parse(deep, true); e != api.ErrSize {
		t.Errorf("Parse of a deep form: %v", e)
	}
	if l, e := lambda.Parse(deep.Kids[0], true); e != api.OK || text(lambda.Variables(l)[0]) != "u::a" {
		t.Errorf("Parse of a form of the greatest depth: %v", e)
	}
}

func TestP18_1Variables(t *testing.T) {
	for _, x := range []struct{ list, want string }{
		{"()", ""},
		{"(a &optional (b 1 c) &rest d)", "a b c d"},
		{"(&whole w (a (b) &optional (c 1 d)) &environment e &optional ((f . g) nil h) &key ((:k (i)) nil j) l &aux m)", "w a b c d e f g h i j l m"},
	} {
		l := parse(t, x.list, true)
		got := lambda.Variables(l)
		if texts(got) != x.want {
			t.Errorf("Variables(%s) = %s", x.list, texts(got))
		}
	}
}

func TestP18_3Arity(t *testing.T) {
	for _, x := range []struct {
		list        string
		least, most int
	}{
		{"()", 0, 0}, {"(a b)", 2, 2}, {"(a &optional b c)", 1, 3}, {"(&optional a)", 0, 1}, {"(a &rest r)", 1, -1}, {"(a &optional b &rest r &key)", 1, -1}, {"(&key)", 0, -1}, {"(a &key b)", 1, -1}, {"(a &aux b)", 1, 1},
		{"(&whole w (a b c) &environment e)", 1, 1}, {"(a . r)", 1, -1}, {"((a . b) &optional ((c d)))", 1, 2},
	} {
		if least, most := lambda.Arity(parse(t, x.list, true)); least != x.least || most != x.most {
			t.Errorf("Arity(%s) = %d, %d", x.list, least, most)
		}
	}
}

// matched returns bindings as texts, or an error.
func matched(l lambda.List, args []api.Form) string {
	bs, e := lambda.Match(l, args)
	if e != api.OK {
		return "! " + e.Error()
	}
	var out []string
	for _, b := range bs {
		s := text(b.Var) + "=" + text(b.Value)
		if b.Missing {
			s += "?"
		}
		out = append(out, s)
	}
	return strings.Join(out, " ")
}

func arguments(t *testing.T, s string) []api.Form {
	t.Helper()
	l, ok := forms.Items(read(t, s))
	if !ok {
		t.Fatal(s)
	}
	return l
}

func TestP18_1Match(t *testing.T) {
	for _, x := range []struct{ list, args, want string }{
		{"(a &optional (b 1 c) &rest d)", "(5)", "a=5 b=nil? c=nil d=nil"},
		{"(a &optional (b 1 c) &rest d)", "(5 6 7)", "a=5 b=6 c=t d=(7)"},
		{"(a &optional (b 1 c) &rest d)", "()", "! 4"},
		{"(a b)", "(1)", "! 4"},
		{"(a b)", "(1 2 3)", "! 4"},
		{"(a &optional b)", "(1 2 3)", "! 4"},
		{"(a b)", "((x) #1=(y . #1#))", "a=(x) b=#0=(y . #0#)"},
		{"(&key x)", "(:x 3)", "x=3"},
		{"(&key x)", "(:x)", "! 2"},
		{"(&key x)", "(:y 3)", "! 5"},
		{"(&key x)", "(x 3)", "! 5"},
		{"(&key x)", "(5 3)", "! 5"},
		{"(&key x)", "(:y)", "! 2"},
		{"(&key x)", "(:x 1 :x 2)", "x=1"},
		{"(&key (x 1 y))", "()", "x=nil? y=nil"},
		{"(&key (x 1 y))", "(:x nil)", "x=nil y=t"},
		{"(&key ((k x)) ((nil y)))", "(nil 2 k 1)", "x=1 y=2"},
		{"(&key x)", "(:y 3 :allow-other-keys t)", "x=nil?"},
		{"(&key x)", "(:y 3 :allow-other-keys nil)", "! 5"},
		{"(&key x)", "(:allow-other-keys nil :x 3)", "x=3"},
		{"(&key x)", "(:allow-other-keys nil :y 3 :allow-other-keys t)", "! 5"},
		{"(&key x)", "(:allow-other-keys 0 :y 3 :allow-other-keys nil)", "x=nil?"},
		{"(&key x)", "(x :allow-other-keys y t)", "! 5"},
		{"(&key x &allow-other-keys)", "(5 6 :x 7)", "x=7"},
		{"(&key x &allow-other-keys)", "(5 6 :x)", "! 2"},
		{"(&key allow-other-keys)", "(:y 2)", "! 5"},
		{"(&key allow-other-keys)", "(:allow-other-keys 1 :y 2)", "allow-other-keys=1"},
		{"(&key)", "(:allow-other-keys nil)", ""},
		{"(&key)", "(:x 1)", "! 5"},
		{"(a &rest r &key x)", "(:x :x 1)", "a=:x r=(:x 1) x=1"},
		{"(a &optional b &key x)", "(1 :x 2)", "! 2"},
		{"(a &optional b &key x)", "(1 2 :x 2)", "a=1 b=2 x=2"},
		{"(a &aux (b 1))", "(2)", "a=2 b=nil?"},
		{"(&whole w a &environment e)", "(1)", "w=(1) a=1 e=nil?"},
		{"(&whole w)", "()", "w=nil"},
		{"((a b) . c)", "((1 2) 3)", "a=1 b=2 c=(3)"},
		{"((a b) . c)", "((1 2))", "a=1 b=2 c=nil"},
		{"((a b) . c)", "((1) 3)", "! 4"},
		{"((a b) . c)", "((1 2 3) 3)", "! 4"},
		{"((a b) . c)", "(x 3)", "! 2"},
		{"((a b) . c)", "(#(1 2))", "! 2"},
		{"((a b) . c)", "((1 . 2))", "! 4"},
		{"((a b) . c)", "((1 2 . 3))", "! 2"},
		{"((a . b))", "((1 . 2))", "a=1 b=2"},
		{"((a . b))", "((1 2 . 3))", "a=1 b=(2 . 3)"},
		{"((a &optional b . c))", "((1 . 2))", "a=1 b=nil? c=2"},
		{"((a &rest r &key b))", "((1 :b 2 . 3))", "! 2"},
		{"((a &rest r &key b &allow-other-keys))", "((1 . 3))", "! 2"},
		{"((a &rest r &key b))", "((1 :c 2 . 3))", "! 2"},
		{"((a b &body p &key))", "((2 1 . 9))", "! 2"},
		{"((&optional a &rest p &key))", "((2 . 9))", "! 2"},
		{"((&optional a &rest p))", "((2 . 9))", "a=2 p=9"},
		{"((a &key b))", "((1 :b 2 . 3))", "! 2"},
		{"((a &rest r &key b))", "((1 :b . 3))", "! 2"},
		{"(() a)", "(nil 1)", "a=1"},
		{"(() a)", "((1) 1)", "! 4"},
		{"(() a)", "(5 1)", "! 2"},
		{"((&rest a))", "(5)", "! 2"},
		{"((a) (b))", "(5 (1 2))", "! 2"},
		{"((a) (b))", "((1 2) 5)", "! 4"},
		{"(&optional ((a &optional (b 1 c)) x d))", "()", "a=nil? b=nil? c=nil? d=nil"},
		{"(&optional ((a &optional (b 1 c)) x d))", "((1))", "a=1 b=nil? c=nil d=t"},
		{"(&key ((:k (a b)) x c))", "(:k (1 2))", "a=1 b=2 c=t"},
		{"(&key ((:k (a b)) x c))", "(:k 1)", "! 2"},
		{"(&key ((:k (a b)) x c))", "()", "a=nil? b=nil? c=nil"},
		{"((a) &key b)", "(5 :c 1)", "! 5"},
	} {
		if s := matched(parse(t, x.list, true), arguments(t, x.args)); s != x.want {
			t.Errorf("Match(%s, %s) = %s, want %s", x.list, x.args, s, x.want)
		}
	}
}

// endless returns lists whose patterns lead back to themselves.
func endless() []lambda.List {
	a, b := &lambda.List{}, &lambda.List{}
	a.Items = []lambda.Item{{Kind: lambda.Required, Pattern: a}, {Kind: lambda.Optional, Pattern: a}}
	b.Items = []lambda.Item{{Kind: lambda.Key, Pattern: &lambda.List{Items: []lambda.Item{{Kind: lambda.Rest, Pattern: b}}}}}
	return []lambda.List{*a, *b}
}

func TestP18_1Lists(t *testing.T) {
	a := forms.Symbol("U", "A")
	b := forms.Symbol("U", "B")
	for _, l := range append(endless(),
		lambda.List{Allow: true},
		lambda.List{Items: []lambda.Item{{}}},
		lambda.List{Items: []lambda.Item{{Kind: 8, Var: a}}},
		lambda.List{Items: []lambda.Item{{Kind: lambda.Required}}},
		lambda.List{Items: []lambda.Item{{Kind: lambda.Required, Var: forms.Nil(), Init: forms.Nil()}}},
		lambda.List{Items: []lambda.Item{{Kind: lambda.Required, Var: a, Init: a}}},
		lambda.List{Items: []lambda.Item{{Kind: lambda.Required, Var: a, Given: b}}},
		lambda.List{Items: []lambda.Item{{Kind: lambda.Required, Var: a, Key: b}}},
		lambda.List{Items: []lambda.Item{{Kind: lambda.Required, Var: a}, {Kind: lambda.Required, Var: a}}},
		lambda.List{Items: []lambda.Item{{Kind: lambda.Optional, Var: a, Init: forms.Nil()}, {Kind: lambda.Required, Var: b}}},
		lambda.List{Items: []lambda.Item{{Kind: lambda.Optional, Var: a}}},
		lambda.List{Items: []lambda.Item{{Kind: lambda.Optional, Var: a, Init: forms.Nil(), Given: forms.Nil()}}},
		lambda.List{Items: []lambda.Item{{Kind: lambda.Rest, Pattern: &lambda.List{}}}},
		lambda.List{Items: []lambda.Item{{Kind: lambda.Rest, Var: a}, {Kind: lambda.Rest, Var: b}}},
		lambda.List{Items: []lambda.Item{{Kind: lambda.Key, Var: a, Init: forms.Nil(), Key: a}}},
		lambda.List{Keys: true, Items: []lambda.Item{{Kind: lambda.Key, Var: a, Init: forms.Nil()}}},
		lambda.List{Keys: true, Items: []lambda.Item{{Kind: lambda.Aux, Var: a, Init: forms.Nil()}, {Kind: lambda.Key, Var: b, Init: forms.Nil(), Key: b}}},
		lambda.List{Items: []lambda.Item{{Kind: lambda.Required, Var: a}, {Kind: lambda.Whole, Var: b}}},
		lambda.List{Items: []lambda.Item{{Kind: lambda.Environment, Var: a}, {Kind: lambda.Environment, Var: b}}},
		lambda.List{Items: []lambda.Item{{Kind: lambda.Required, Var: a, Pattern: &lambda.List{}}}},
		lambda.List{Items: []lambda.Item{{Kind: lambda.Required, Pattern: &lambda.List{Allow: true}}}},
	) {
		if f, e := lambda.Show(l); e != api.ErrForm || f.Kind != 0 {
			t.Errorf("Show(%v) = %s, %v", l, text(f), e)
		}
		if f, n, e := lambda.Bind(l, a, nil, 3); e != api.ErrForm || n != 0 || f.Kind != 0 {
			t.Errorf("Bind(%v) = %s, %d, %v", l, text(f), n, e)
		}
		lambda.Variables(l)
		lambda.Arity(l)
		for _, args := range [][]api.Form{nil, {a}, {a, b}, {forms.List([]api.Form{forms.Nil()})}, {{Kind: api.FormCons}}, {{}, {}}} {
			lambda.Match(l, args)
		}
	}
}

func TestP18_2Show(t *testing.T) {
	for _, s := range []string{
		"()", "(a b)", "(a &optional b (c 1) (d nil e))", "(&rest r)", "(&key)", "(&key &allow-other-keys)", "(a &optional b &rest r &key c (d 1 e) ((f g)) &allow-other-keys &aux h (i 2))",
		"(&whole w (a . b) &environment e &optional ((c) x d) &key ((:k (f))))", "(&aux (a 1) &environment e)", "((()))", "((&rest a) (&key))",
	} {
		l := parse(t, s, true)
		f, e := lambda.Show(l)
		if e != api.OK {
			t.Errorf("Show(%s): %v", s, e)
		}
		back, e := lambda.Parse(f, true)
		if e != api.OK || described(back) != described(l) {
			t.Errorf("Show(%s) = %s", s, text(f))
		}
	}
}

// Lists that Parse did not return may say the same.
func TestP18_2ShowOthers(t *testing.T) {
	a, b := forms.Symbol("U", "A"), forms.Symbol("U", "B")
	part := &lambda.List{Items: []lambda.Item{{Kind: lambda.Required, Var: a}}}
	for _, x := range []struct {
		l    lambda.List
		want string
	}{
		{lambda.List{Items: []lambda.Item{{Kind: lambda.Required, Var: a}, {Kind: lambda.Rest, Var: b}}}, "(u::a &rest u::b)"},
		{lambda.List{Items: []lambda.Item{{Kind: lambda.Required, Pattern: part}}}, "((u::a))"},
		{lambda.List{Keys: true, Items: []lambda.Item{{Kind: lambda.Aux, Var: a, Init: forms.Nil()}}}, "(&key &aux u::a)"},
	} {
		if f, e := lambda.Show(x.l); e != api.OK || text(f) != x.want {
			t.Errorf("Show(%v) = %s, %v", x.l, text(f), e)
		}
	}
	twice := lambda.List{Items: []lambda.Item{{Kind: lambda.Required, Pattern: part}, {Kind: lambda.Required, Pattern: part}}}
	if l := lambda.Variables(twice); texts(l) != "u::a u::a" {
		t.Errorf("Variables of a pattern that stands twice: %s", texts(l))
	}
	if s := matched(twice, arguments(t, "((1) (2))")); s != "u::a=1 u::a=2" {
		t.Errorf("Match of a pattern that stands twice: %s", s)
	}
}

// Lists of the greatest size have no room for anything that need not be there.
func TestP18_2ShowLarge(t *testing.T) {
	tail := read(t, "(&optional . z)")
	for _, part := range []string{"(&optional . a)", "(a . b)", "(&optional a)", "(&optional ((a)))", "(&key a)", "((a . b) . c)"} {
		var out []api.Form
		nodes := 2 // the list, and its tail
		for i := range 2000 {
			f := renamed(read(t, part), i)
			n, _ := forms.Size(f)
			if nodes+n > api.MaxForm {
				break
			}
			nodes += n
			out = append(out, f)
		}
		for nodes < api.MaxForm {
			out = append(out, renamed(forms.Symbol("U", "V"), nodes))
			nodes++
		}
		l, e := lambda.Parse(forms.Dotted(out, tail.Kids[1]), true)
		if e != api.OK {
			t.Fatalf("%s: %v", part, e)
		}
		f, e := lambda.Show(l)
		if e != api.OK {
			t.Errorf("Show of many %s: %v", part, e)
		}
		if back, e := lambda.Parse(f, true); e != api.OK || described(back) != described(l) {
			t.Errorf("Show of many %s is read as another one: %v", part, e)
		}
	}
}

// renamed gives variables names with a number.
func renamed(f api.Form, n int) api.Form {
	if f.Kind == api.FormSymbol && !strings.HasPrefix(f.Text, "&") && !forms.IsNil(f) {
		f.Text += strings.Repeat("X", n%50) + strings.Repeat("Y", n/50)
	}
	f.Kids = slices.Clone(f.Kids)
	for i, kid := range f.Kids {
		f.Kids[i] = renamed(kid, n)
	}
	return f
}
