package printer_test

import (
	"math/rand/v2"
	"slices"
	"strconv"
	"strings"
	"testing"
	"unicode/utf8"

	"commonform/api"
	"commonform/forms"
	"commonform/number"
	"commonform/printer"
	"commonform/reader"
	"commonform/token"
)

const runs = 4000

func source(seed uint64) *rand.Rand { return rand.New(rand.NewPCG(seed, 8)) }

func pick(r *rand.Rand, l ...string) string { return l[r.IntN(len(l))] }

func leaf(kind int, text string) api.Form { return api.Form{Kind: kind, Text: text} }

func whole(s string) api.Form { return leaf(api.FormInt, s) }

func user(s string) api.Form { return forms.Symbol("P", s) }

func lisp(s string) api.Form { return forms.Symbol("COMMON-LISP", s) }

func list(l ...api.Form) api.Form { return forms.List(l) }

func vector(l ...api.Form) api.Form { return api.Form{Kind: api.FormVector, Kids: l} }

func array(text string, l ...api.Form) api.Form {
	return api.Form{Kind: api.FormArray, Text: text, Kids: l}
}

func label(n string, f api.Form) api.Form {
	return api.Form{Kind: api.FormLabel, Text: n, Kids: []api.Form{f}}
}

func ref(n string) api.Form { return leaf(api.FormRef, n) }

func mark(name string, f api.Form) api.Form { return list(forms.Symbol("READER", name), f) }

func usual() printer.Options {
	o := printer.Standard("P")
	o.Uses = []string{"COMMON-LISP"}
	return o
}

// with returns the usual options, changed.
func with(change func(o *printer.Options)) printer.Options {
	o := usual()
	change(&o)
	return o
}

func table(l ...token.Entry) token.Table { return token.Table{Entries: l} }

func TestP8_1Options(t *testing.T) {
	long := strings.Repeat("a", 101)
	externals := func(n int) []printer.External { return make([]printer.External, n) }
	for i, x := range []struct {
		o printer.Options
		e api.Errno
	}{
		{usual(), api.OK}, {with(func(o *printer.Options) { o.Base, o.Length, o.Level = 2, 0, 0 }), api.OK}, {with(func(o *printer.Options) { o.Base, o.Package = 36, long[1:] }), api.OK},
		{with(func(o *printer.Options) { o.Uses, o.External = make([]string, 64), externals(1000) }), api.OK},
		{with(func(o *printer.Options) { o.Table.Case, o.Base = 4, 0 }), api.ErrArg}, {with(func(o *printer.Options) { o.Table.Entries = make([]token.Entry, 65) }), api.ErrSize}, {with(func(o *printer.Options) {
			o.Table = table(token.Entry{Char: 'b', Kind: 1}, token.Entry{Char: 'a', Kind: 1})
		}), api.ErrOrder},
		{with(func(o *printer.Options) { o.Base, o.Uses = 1, make([]string, 65) }), api.ErrArg}, {with(func(o *printer.Options) { o.Base = 37 }), api.ErrArg}, {with(func(o *printer.Options) { o.Package, o.External = "", externals(1001) }), api.ErrArg},
		{with(func(o *printer.Options) { o.Length, o.Uses = -2, make([]string, 65) }), api.ErrArg}, {with(func(o *printer.Options) { o.Level, o.Uses = -2, make([]string, 65) }), api.ErrArg},
		{with(func(o *printer.Options) { o.Package, o.Uses = long, make([]string, 65) }), api.ErrSize}, {with(func(o *printer.Options) { o.Package, o.External = long, externals(1001) }), api.ErrSize},
		{with(func(o *printer.Options) { o.Package = long }), api.ErrForm}, {with(func(o *printer.Options) { o.Package = "\xff" }), api.ErrForm}, {with(func(o *printer.Options) { o.Uses = []string{"A", long} }), api.ErrForm}, {with(func(o *printer.Options) { o.Uses = []string{"A", "\xff"} }), api.ErrForm},
		{with(func(o *printer.Options) { o.External = []printer.External{{}, {Home: long}} }), api.ErrForm}, {with(func(o *printer.Options) { o.External = []printer.External{{}, {Name: "\xff"}} }), api.ErrForm}, {with(func(o *printer.Options) { o.External = []printer.External{{Home: long[1:], Name: long[1:]}} }), api.OK},
	} {
		if e := printer.Check(x.o); e != x.e {
			t.Errorf("Check(%d) = %v, not %v", i, e, x.e)
		}
		if x.e == api.OK {
			continue
		}
		calls := map[string]func() (string, api.Errno){
			"Symbol":    func() (string, api.Errno) { return printer.Symbol(x.o, whole("1")) },
			"Character": func() (string, api.Errno) { return printer.Character(x.o, -1) },
			"String":    func() (string, api.Errno) { return printer.String(x.o, "\xff") },
			"Print":     func() (string, api.Errno) { return printer.Print(x.o, api.Form{}) },
			"Lines":     func() (string, api.Errno) { return printer.Lines(x.o, nil) },
		}
		for name, call := range calls {
			if s, e := call(); s != "" || e != x.e {
				t.Errorf("%s with wrong options = %q, %v, not %v", name, s, e, x.e)
			}
		}
	}
}

func TestP8_1Standard(t *testing.T) {
	o := printer.Standard("Q")
	if o.Base != 10 || o.Package != "Q" || !o.Escape || !o.Array || !o.Abbrev || o.Length != -1 || o.Level != -1 || o.Radix || o.Double || o.Readable || o.Circle || len(o.Uses)+len(o.External)+len(o.Table.Entries)+o.Table.Case != 0 {
		t.Errorf("Standard = %v", o)
	}
	o = printer.Options{Table: table(token.Entry{Char: '!', Kind: 1}), Base: 3, Radix: true, Double: true, Package: "Q", Length: 4, Level: 5, Uses: []string{"A"}, External: []printer.External{{Home: "B", Name: "C"}}}
	x := printer.Readably(o)
	if x.Base != 3 || !x.Radix || !x.Double || x.Package != "Q" || !x.Escape || !x.Readable || !x.Circle || !x.Array || x.Abbrev || x.Length != -1 || x.Level != -1 || !slices.Equal(x.Uses, o.Uses) || !slices.Equal(x.External, o.External) || !slices.Equal(x.Table.Entries, o.Table.Entries) {
		t.Errorf("Readably = %v", x)
	}
	x.Uses[0], x.External[0].Home, x.Table.Entries[0].Kind = "X", "X", 9
	if o.Uses[0] != "A" || o.External[0].Home != "B" || o.Table.Entries[0].Kind != 1 || o.Escape {
		t.Error("Readably shares memory with its argument")
	}
}

func TestP8_1Symbol(t *testing.T) {
	bare := with(func(o *printer.Options) { o.Escape = false })
	external := with(func(o *printer.Options) {
		o.External = []printer.External{{Home: "Q", Name: "A"}, {Home: "KEYWORD", Name: "A"}, {Home: "P", Name: "A"}}
	})
	noBar := with(func(o *printer.Options) { o.Table = table(token.Entry{Char: '|', Kind: token.Constituent}) })
	hex := with(func(o *printer.Options) { o.Base = 16 })
	keyword := with(func(o *printer.Options) { o.Package = "KEYWORD" })
	long := strings.Repeat("A", 4001)
	for _, x := range []struct {
		o    printer.Options
		f    api.Form
		want string
		e    api.Errno
	}{
		{usual(), user("FOO"), "foo", api.OK}, {usual(), user("foo"), "|foo|", api.OK}, {usual(), user(""), "||", api.OK}, {usual(), lisp("CAR"), "car", api.OK}, {usual(), forms.Symbol("Q", "A"), "q::a", api.OK}, {usual(), forms.Symbol("q", "A"), "|q|::a", api.OK}, {usual(), forms.Symbol("KEYWORD", "A"), ":a", api.OK},
		{keyword, forms.Symbol("KEYWORD", "A"), ":a", api.OK}, {usual(), forms.Symbol("", "A"), "#:a", api.OK}, {usual(), forms.Symbol("", "12"), "#:|12|", api.OK}, {usual(), user("FF"), "ff", api.OK}, {hex, user("FF"), "|FF|", api.OK}, {hex, forms.Symbol("", "FF"), "#:|FF|", api.OK},
		{external, forms.Symbol("Q", "A"), "q:a", api.OK}, {external, forms.Symbol("Q", "B"), "q::b", api.OK}, {external, forms.Symbol("R", "A"), "r::a", api.OK}, {external, forms.Symbol("KEYWORD", "A"), ":a", api.OK}, {external, user("A"), "a", api.OK},
		{bare, user("FOO"), "foo", api.OK}, {bare, user("a b"), "a b", api.OK}, {bare, forms.Symbol("Q", "A"), "a", api.OK}, {bare, forms.Symbol("KEYWORD", "A"), "a", api.OK}, {bare, forms.Symbol("", "12"), "12", api.OK},
		{usual(), whole("1"), "", api.ErrType}, {usual(), api.Form{}, "", api.ErrType}, {usual(), api.Form{Kind: api.FormString, Text: "\xff"}, "", api.ErrType}, {usual(), api.Form{Kind: api.FormSymbol, Text: "\xff"}, "", api.ErrForm}, {usual(), api.Form{Kind: api.FormSymbol, Text: "A", Kids: []api.Form{whole("1")}}, "", api.ErrForm},
		{usual(), user(long), "", api.ErrSize}, {bare, user(long), "", api.ErrSize}, {usual(), forms.Symbol("", long), "", api.ErrSize}, {usual(), forms.Symbol("Q", ""), "", api.ErrArg}, {noBar, user("foo"), "", api.ErrNone}, {noBar, user("FOO"), "foo", api.OK}, {noBar, forms.Symbol("", "foo"), "", api.ErrNone},
	} {
		if got, e := printer.Symbol(x.o, x.f); got != x.want || e != x.e {
			t.Errorf("Symbol(%.40v) = %q, %v, not %q, %v", x.f, got, e, x.want, x.e)
		}
		if x.e == api.ErrType {
			continue
		}
		if got, e := printer.Print(x.o, x.f); got != x.want || e != x.e {
			t.Errorf("Print(%.40v) = %q, %v, not %q, %v", x.f, got, e, x.want, x.e)
		}
	}
}

func TestP8_1Character(t *testing.T) {
	names := map[rune]string{0: "Null", 8: "Backspace", 9: "Tab", 10: "Newline", 12: "Page", 13: "Return", 32: "Space", 127: "Rubout", 1: "U0001", 31: "U001F", 128: "U0080", 159: "U009F", 160: "\u00a0"}
	bare := with(func(o *printer.Options) { o.Escape = false })
	for c := rune(-2); c < 0x110010; c++ {
		if c > 400 && c%97 != 0 && c < 0x10fff0 {
			continue
		}
		s, e := printer.Character(usual(), c)
		plain, f := printer.Character(bare, c)
		if !utf8.ValidRune(c) {
			if s != "" || plain != "" || e != api.ErrArg || f != api.ErrArg {
				t.Fatalf("Character(%d) = %q, %v", c, s, e)
			}
			continue
		}
		if plain != string(c) || e != api.OK || f != api.OK {
			t.Fatalf("Character(%d) = %q, %v without escapes", c, plain, f)
		}
		want, isNamed := names[c]
		if !isNamed {
			want = string(c)
			if c < 32 || c > 127 && c < 160 {
				want = "U00" + strings.ToUpper(strconv.FormatInt(int64(c)+256, 16)[1:])
			}
		}
		if s != "#\\"+want {
			t.Fatalf("Character(%d) = %q, not %q", c, s, want)
		}
		if p, _ := printer.Print(usual(), leaf(api.FormChar, string(c))); p != s {
			t.Fatalf("Print of the character %d = %q", c, p)
		}
		if r, _, e := reader.One(reader.Standard("P"), s); e != api.OK || r.Form.Text != string(c) {
			t.Fatalf("%q is read as %v, %v", s, r.Form, e)
		}
	}
}

func TestP8_5Escapes(t *testing.T) {
	bare := with(func(o *printer.Options) { o.Escape = false })
	for _, s := range []string{"", "a", "\"", "a\\b|\n", "é"} {
		got, e := printer.String(bare, s)
		printed, f := printer.Print(bare, leaf(api.FormString, s))
		if got != s || printed != s || e != api.OK || f != api.OK {
			t.Errorf("String(%q) = %q, %q", s, got, printed)
		}
	}
}

func TestP8_1String(t *testing.T) {
	single := func(l ...rune) printer.Options {
		return with(func(o *printer.Options) {
			for _, c := range l {
				kind := token.Single
				if c == '\\' {
					kind = token.White
				}
				o.Table, _ = token.Set(o.Table, c, kind)
			}
		})
	}
	bare := with(func(o *printer.Options) { o.Escape = false })
	for _, x := range []struct {
		o       printer.Options
		s, want string
		e       api.Errno
	}{
		{usual(), "", `""`, api.OK}, {usual(), "a|b\n", "\"a|b\n\"", api.OK}, {usual(), `a"b\c`, `"a\"b\\c"`, api.OK}, {single('!'), `a"!\`, `"a!"!!!\"`, api.OK}, {single('~'), `"~\`, `"\"\~\\"`, api.OK},
		{single('\\'), `a\`, `"a\"`, api.OK}, {single('\\'), `a"`, "", printer.ErrReadable}, {single('\\', '~'), `a"~\`, `"a~"~~\"`, api.OK}, {single('\\'), "\"\xff", "", api.ErrForm}, {bare, "\xff", "", api.ErrForm},
		{usual(), strings.Repeat("a", 99998), `"` + strings.Repeat("a", 99998) + `"`, api.OK}, {usual(), strings.Repeat("a", 99999), "", api.ErrLarge}, {usual(), strings.Repeat("\"", 50000), "", api.ErrLarge}, {bare, strings.Repeat("a", 100001), "", api.ErrLarge}, {bare, strings.Repeat("a", 100000), strings.Repeat("a", 100000), api.OK},
	} {
		if got, e := printer.String(x.o, x.s); got != x.want || e != x.e {
			t.Errorf("String(%.20q) = %.20q, %v, not %.20q, %v", x.s, got, e, x.want, x.e)
		}
		if got, e := printer.Print(x.o, leaf(api.FormString, x.s)); got != x.want || e != x.e {
			t.Errorf("Print of %.20q = %.20q, %v, not %.20q, %v", x.s, got, e, x.want, x.e)
		}
	}
}

func TestP8_1Print(t *testing.T) {
	a, b := user("A"), user("B")
	plain := usual()
	circle := with(func(o *printer.Options) { o.Circle = true })
	hidden := with(func(o *printer.Options) { o.Array = false })
	long := with(func(o *printer.Options) { o.Abbrev = false })
	limit := func(length, level int) printer.Options {
		return with(func(o *printer.Options) { o.Length, o.Level = length, level })
	}
	bare := with(func(o *printer.Options) { o.Escape = false })
	cube := array("2 1 2", a, b, whole("1"), list(a, b))
	for _, x := range []struct {
		o    printer.Options
		f    api.Form
		want string
	}{
		{plain, whole("-12"), "-12"}, {plain, leaf(api.FormRatio, "1/2"), "1/2"}, {plain, leaf(api.FormSingle, "3f800000"), "1.0"}, {plain, leaf(api.FormDouble, "3ff0000000000000"), "1.0d0"}, {with(func(o *printer.Options) { o.Double = true }), leaf(api.FormSingle, "3f800000"), "1.0f0"},
		{with(func(o *printer.Options) { o.Base, o.Radix = 2, true }), whole("5"), "#b101"}, {with(func(o *printer.Options) { o.Radix = true }), list(whole("5"), leaf(api.FormRatio, "1/2")), "(5. #10r1/2)"}, {plain, api.Form{Kind: api.FormComplex, Kids: []api.Form{whole("1"), whole("2")}}, "#C(1 2)"},
		{plain, list(a, b), "(a b)"}, {plain, list(list(a), forms.Nil()), "((a) nil)"}, {plain, forms.Nil(), "nil"}, {plain, forms.Dotted([]api.Form{a, b}, whole("1")), "(a b . 1)"}, {plain, forms.Dotted([]api.Form{a}, vector(b)), "(a . #(b))"},
		{plain, vector(), "#()"}, {plain, vector(a, vector(b)), "#(a #(b))"}, {plain, leaf(api.FormBits, ""), "#*"}, {plain, list(leaf(api.FormBits, "01")), "(#*01)"},
		{plain, array("", list(a)), "#0A(a)"}, {plain, array("2 2", a, b, b, a), "#2A((a b) (b a))"}, {plain, cube, "#3A(((a b)) ((1 (a b))))"}, {plain, array("0 2"), "#2A()"}, {plain, array("2 0"), "#2A(() ())"}, {plain, array("2 0 3"), "#3A(() ())"},
		{hidden, list(vector(a), cube, leaf(api.FormBits, "1")), "(#<VECTOR> #<ARRAY> #<BIT-VECTOR>)"}, {hidden, vector(leaf(api.FormSingle, "7fc00000")), "#<VECTOR>"},
		{plain, list(lisp("QUOTE"), a), "'a"}, {plain, list(lisp("FUNCTION"), list(a)), "#'(a)"}, {plain, list(lisp("QUOTE"), a, b), "(quote a b)"}, {plain, list(lisp("QUOTE")), "(quote)"}, {plain, forms.Dotted([]api.Form{lisp("QUOTE"), a}, b), "(quote a . b)"}, {plain, list(user("QUOTE"), a), "(quote a)"}, {long, list(lisp("QUOTE"), a), "(quote a)"}, {long, mark("BACKQUOTE", a), "(reader::backquote a)"},
		{plain, mark("BACKQUOTE", a), "`a"}, {plain, mark("COMMA", a), "(reader::comma a)"}, {plain, mark("SPLICE", a), "(reader::splice a)"}, {plain, mark("BACKQUOTE", list(mark("COMMA", a), mark("SPLICE", b))), "`(,a ,@b)"}, {plain, mark("BACKQUOTE", mark("COMMA", mark("COMMA", a))), "`,(reader::comma a)"},
		{plain, mark("BACKQUOTE", mark("BACKQUOTE", mark("COMMA", mark("SPLICE", mark("COMMA", a))))), "``,,@(reader::comma a)"}, {plain, mark("BACKQUOTE", mark("SPLICE", mark("COMMA", a))), "`,@(reader::comma a)"}, {plain, mark("BACKQUOTE", vector(mark("COMMA", a), array("", mark("COMMA", b)))), "`#(,a #0A,b)"}, {plain, list(mark("BACKQUOTE", a), mark("COMMA", a)), "(`a (reader::comma a))"},
		{plain, mark("BACKQUOTE", mark("COMMA", user("@B"))), "`, @b"}, {plain, mark("BACKQUOTE", mark("SPLICE", user("@B"))), "`,@@b"}, {plain, mark("BACKQUOTE", mark("COMMA", user("@b"))), "`,|@b|"}, {bare, mark("BACKQUOTE", mark("COMMA", leaf(api.FormString, "@b"))), "`, @b"}, {bare, mark("BACKQUOTE", mark("COMMA", leaf(api.FormChar, "@"))), "`, @"}, {plain, list(lisp("QUOTE"), user("@B")), "'@b"}, {bare, mark("BACKQUOTE", mark("COMMA", list(user("@B")))), "`,(@b)"},
		{circle, label("7", list(a, ref("7"))), "#0=(a #0#)"}, {circle, list(label("3", list(a)), label("1", vector()), ref("1"), ref("3")), "(#0=(a) #1=#() #1# #0#)"}, {circle, label("3", list(a)), "(a)"}, {circle, forms.Dotted([]api.Form{label("1", list(a))}, ref("1")), "(#0=(a) . #0#)"}, {circle, forms.Dotted([]api.Form{a}, label("1", forms.Dotted([]api.Form{b}, ref("1")))), "(a . #0=(b . #0#))"}, {circle, mark("BACKQUOTE", label("1", list(mark("COMMA", a), ref("1")))), "`#0=(,a #0#)"}, {circle, list(label("1", a), ref("1")), "(a a)"}, {circle, array("1 2", label("1", list(a)), ref("1")), "#2A((#0=(a) #0#))"}, {circle, list(label("1", list(a)), array("1 2", ref("1"), b)), "(#0=(a) #2A((#0# b)))"},
		{plain, list(label("1", list(a)), ref("1")), "((a) (a))"},
		{limit(-1, 0), list(a), "#"}, {limit(-1, 0), a, "a"}, {limit(-1, 0), vector(), "#"}, {limit(-1, 0), array("2 2", a, a, a, a), "#2A#"}, {limit(-1, 0), array("", a), "#0Aa"}, {limit(-1, 0), array("", list(a)), "#0A#"}, {limit(-1, 0), leaf(api.FormBits, "01"), "#*01"}, {limit(-1, 0), list(lisp("QUOTE"), a), "'a"}, {limit(-1, 0), list(lisp("QUOTE"), list(a)), "'#"}, {limit(-1, 1), array("2 2", a, a, a, a), "#2A(# #)"}, {limit(-1, 2), array("2 1", list(a), a), "#2A((#) (a))"}, {limit(-1, 1), list(a, list(b), vector(b)), "(a # #)"}, {limit(-1, 1), list(list(lisp("QUOTE"), a)), "('a)"}, {limit(-1, 1), forms.Dotted([]api.Form{a}, vector(b)), "(a . #)"}, {limit(-1, 2), forms.Dotted([]api.Form{a}, vector(b)), "(a . #(b))"},
		{limit(0, -1), list(a), "(...)"}, {limit(0, -1), vector(), "#()"}, {limit(0, -1), vector(a), "#(...)"}, {limit(1, -1), list(a, b), "(a ...)"}, {limit(1, -1), list(list(a, b)), "((a ...))"}, {limit(2, -1), list(a, b), "(a b)"}, {limit(1, -1), forms.Dotted([]api.Form{a}, b), "(a . b)"}, {limit(1, -1), forms.Dotted([]api.Form{a, b}, b), "(a ...)"}, {limit(1, -1), array("2 2", a, a, a, a), "#2A((a ...) ...)"}, {limit(0, -1), array("2 2", a, a, a, a), "#2A(...)"}, {limit(0, -1), array("0 0"), "#2A()"}, {limit(0, -1), list(lisp("QUOTE"), a), "'a"}, {limit(0, 0), list(a), "#"}, {limit(1, -1), array("2000 2000 0"), "#3A((() ...) ...)"},
	} {
		if got, e := printer.Print(x.o, x.f); got != x.want || e != api.OK {
			t.Errorf("Print(%v) = %q, %v, not %q", x.f, got, e, x.want)
		}
	}
}

func TestP8_1PrintErrors(t *testing.T) {
	readable := func(l ...token.Entry) printer.Options {
		return with(func(o *printer.Options) { o.Readable, o.Table = true, table(l...) })
	}
	hidden := with(func(o *printer.Options) { o.Readable, o.Array = true, false })
	circle := label("1", list(ref("1")))
	nan := leaf(api.FormSingle, "7fc00000")
	long := user(strings.Repeat("A", 4001))
	large := leaf(api.FormString, strings.Repeat("a", 50000))
	wide := list(label("1", list(slices.Repeat([]api.Form{whole("1")}, 990)...)), ref("1"), ref("1"))
	for i, x := range []struct {
		o printer.Options
		f api.Form
		e api.Errno
	}{
		{usual(), api.Form{}, api.ErrForm}, {readable(token.Entry{Char: 'a', Kind: token.White}), list(ref("1")), forms.ErrLabel}, {readable(token.Entry{Char: 'a', Kind: token.White}), circle, printer.ErrReadable}, {usual(), circle, forms.ErrCircle}, {usual(), wide, api.ErrSize}, {with(func(o *printer.Options) { o.Circle = true }), wide, api.OK},
		{usual(), list(circle, nan), forms.ErrCircle}, {usual(), list(nan, long), api.ErrForm}, {usual(), list(long, nan), api.ErrSize}, {usual(), leaf(api.FormInt, strings.Repeat("1", 20001)), api.ErrLarge}, {with(func(o *printer.Options) { o.Length = 1 }), list(whole("1"), nan), api.OK}, {with(func(o *printer.Options) { o.Level = 1 }), list(list(nan)), api.OK},
		{usual(), list(large, large), api.ErrLarge}, {usual(), list(large, large, nan), api.ErrLarge}, {usual(), list(large, nan, large), api.ErrForm}, {usual(), array("2000 2000 0"), api.ErrLarge}, {usual(), array("2000 2000 2000 2000 2000 2000 0"), api.ErrLarge},
		{hidden, vector(), printer.ErrReadable}, {hidden, leaf(api.FormBits, ""), printer.ErrReadable}, {hidden, array("0 0"), printer.ErrReadable}, {hidden, list(nan, vector()), api.ErrForm}, {hidden, list(vector(), nan), printer.ErrReadable},
		{readable(), array("0 2"), printer.ErrReadable}, {readable(), array("0 0"), api.OK}, {readable(), array("2 0"), api.OK}, {readable(), array("2 0 0"), api.OK}, {readable(), array("2 0 1"), printer.ErrReadable}, {readable(), array("0 0 1"), printer.ErrReadable}, {usual(), array("2 0 1"), api.OK},
	} {
		got, e := printer.Print(x.o, x.f)
		if e != x.e || (got == "") != (e != api.OK) {
			t.Errorf("%d: Print = %.20q, %v, not %v", i, got, e, x.e)
		}
	}
	for c := rune(0); c < 300; c++ {
		kind := token.White
		if token.Standard(c) == token.White {
			kind = token.Constituent
		}
		standard := token.Standard(c)
		isNeeded := standard == token.White || standard == token.Terminating || standard == token.Nonterminating || strings.ContainsRune("abcdefghijklmnopqrstuvwxyzABCDEFGHIJKLMNOPQRSTUVWXYZ0123456789.:+-/", c)
		o := readable(token.Entry{Char: c, Kind: kind})
		if _, e := printer.Print(o, vector()); (e == printer.ErrReadable) != isNeeded || e != api.OK && !isNeeded {
			t.Errorf("Print with an entry for %q: %v", c, e)
		}
		o.Readable = false
		if _, e := printer.Print(o, vector()); e != api.OK {
			t.Errorf("Print with an entry for %q: %v", c, e)
		}
	}
}

func TestP8_1Text(t *testing.T) {
	for _, x := range []struct {
		f            api.Form
		want, escape string
	}{
		{list(lisp("CAR"), forms.Symbol("COMMON-LISP-USER", "x"), leaf(api.FormString, "s")), "(car x s)", `(car |x| "s")`}, {label("4", list(ref("4"))), "#0=(#0#)", "#0=(#0#)"}, {forms.Symbol("Q", "A"), "a", "q::a"}, {leaf(api.FormChar, " "), " ", "#\\Space"}, {list(lisp("QUOTE"), vector()), "'#()", "'#()"},
	} {
		if got, e := printer.Text(x.f, false); got != x.want || e != api.OK {
			t.Errorf("Text = %q, %v, not %q", got, e, x.want)
		}
		if got, e := printer.Text(x.f, true); got != x.escape || e != api.OK {
			t.Errorf("Text = %q, %v, not %q", got, e, x.escape)
		}
	}
	if s, e := printer.Text(api.Form{}, true); s != "" || e != api.ErrForm {
		t.Errorf("Text = %q, %v", s, e)
	}
}

func TestP8_1Lines(t *testing.T) {
	a, large := user("A"), leaf(api.FormString, strings.Repeat("a", 49997))
	for i, x := range []struct {
		l    []api.Form
		want string
		e    api.Errno
	}{
		{nil, "", api.OK}, {[]api.Form{a}, "a\n", api.OK}, {[]api.Form{a, list(a)}, "a\n(a)\n", api.OK}, {[]api.Form{a, {}, user(strings.Repeat("A", 4001))}, "", api.ErrForm},
		{[]api.Form{large, large}, strings.Repeat(`"`+large.Text+"\"\n", 2), api.OK}, {[]api.Form{large, large, a}, "", api.ErrLarge}, {[]api.Form{large, leaf(api.FormString, large.Text+"a")}, "", api.ErrLarge}, {[]api.Form{large, large, large, {}}, "", api.ErrForm},
	} {
		if got, e := printer.Lines(usual(), x.l); got != x.want || e != x.e {
			t.Errorf("Lines(%d) = %.20q, %v, not %.20q, %v", i, got, e, x.want, x.e)
		}
	}
}

// randomForm returns a right form, perhaps with labels.
func randomForm(r *rand.Rand) api.Form {
	labels := []string{}
	return randomPart(r, 4, &labels)
}

func randomAtom(r *rand.Rand) api.Form {
	switch r.IntN(12) {
	case 0:
		return whole(pick(r, "0", "-12", "255", "123456789012345678901"))
	case 1:
		return leaf(api.FormRatio, pick(r, "1/2", "-22/7"))
	case 2:
		return leaf(api.FormSingle, pick(r, "3f800000", "80000000", "7e967699", "00000001"))
	case 3:
		return leaf(api.FormDouble, pick(r, "3ff0000000000000", "c1e0000000000000"))
	case 4:
		return leaf(api.FormChar, pick(r, "a", " ", "(", "|", "\\", "\x00", "\x7f", "\u0085", "é", "#", ";", "@"))
	case 5:
		return leaf(api.FormString, pick(r, "", "a\"b", "\\", "|;(", "@x", "é\n"))
	case 6:
		return leaf(api.FormBits, pick(r, "", "0", "1011"))
	case 7:
		return forms.Nil()
	case 8:
		if r.IntN(3) == 0 {
			return api.Form{Kind: api.FormComplex, Kids: []api.Form{whole("1"), leaf(api.FormRatio, "2/3")}}
		}
	}
	return forms.Symbol(pick(r, "P", "P", "", "KEYWORD", "Q", "COMMON-LISP", "q r", "12"), pick(r, "A", "foo", "FOO", "12", "1/2", "FF", ".", "..", "A:B", "a b", "|", "\\", "@B", "É", "1E5", "+", "-", "1+", "#", "A#", "'", "é"))
}

func randomPart(r *rand.Rand, depth int, labels *[]string) api.Form {
	if depth == 0 || r.IntN(3) == 0 {
		if len(*labels) > 0 && r.IntN(4) == 0 {
			return ref((*labels)[r.IntN(len(*labels))])
		}
		return randomAtom(r)
	}
	parts := func(n int) []api.Form {
		var l []api.Form
		for range n {
			l = append(l, randomPart(r, depth-1, labels))
		}
		return l
	}
	switch r.IntN(10) {
	case 0:
		n := strconv.Itoa(len(*labels) + 7)
		*labels = append(*labels, n)
		f := randomPart(r, depth-1, labels)
		if f.Kind == api.FormLabel || f.Kind == api.FormRef {
			f = vector(f)
		}
		return label(n, f)
	case 1:
		return vector(parts(r.IntN(4))...)
	case 2:
		n, m := r.IntN(3), r.IntN(3)
		return array(strconv.Itoa(n)+" "+strconv.Itoa(m), parts(n*m)...)
	case 3:
		return array("", parts(1)...)
	case 4:
		return list(lisp(pick(r, "QUOTE", "FUNCTION")), parts(1)[0])
	case 5, 6:
		return mark(pick(r, "BACKQUOTE", "BACKQUOTE", "COMMA", "COMMA", "SPLICE"), parts(1)[0])
	}
	l := parts(1 + r.IntN(4))
	if r.IntN(4) == 0 {
		return forms.Dotted(l, randomPart(r, depth-1, labels))
	}
	return forms.List(l)
}

// randomOptions returns options with which all that there is may be read back.
func randomOptions(r *rand.Rand) printer.Options {
	o := printer.Standard(pick(r, "P", "COMMON-LISP", "READER", "Q"))
	o.Base, o.Radix, o.Double, o.Abbrev = 2+r.IntN(35), r.IntN(2) == 0, r.IntN(2) == 0, r.IntN(4) > 0
	o.Table.Case = r.IntN(4)
	for _, c := range []rune("!$*<=@\\_b|~é") {
		if kind := r.IntN(7); r.IntN(9) == 0 && kind != token.Standard(c) && c != 'b' {
			o.Table.Entries = append(o.Table.Entries, token.Entry{Char: c, Kind: kind})
		}
	}
	if r.IntN(2) == 0 {
		o.External = []printer.External{{Home: "Q", Name: "A"}, {Home: "COMMON-LISP", Name: "FOO"}}
	}
	return o
}

func readBack(o printer.Options, s string) (api.Form, api.Errno) {
	r, _, e := reader.One(reader.Options{Table: o.Table, Base: o.Base, Double: o.Double, Package: o.Package}, s)
	return r.Form, e
}

func TestP8_2ThereAndBack(t *testing.T) {
	r := source(1)
	count := 0
	for range 10 * runs {
		o, f := printer.Readably(randomOptions(r)), randomForm(r)
		s, e := printer.Print(o, f)
		if e != api.OK {
			if e != printer.ErrReadable && e != api.ErrNone && e != api.ErrSize {
				t.Fatalf("Print(%v): %v", f, e)
			}
			continue
		}
		count++
		back, e := readBack(o, s)
		if e == api.ErrSize && len(s) > api.MaxSource {
			continue
		}
		same, g := forms.Same(back, f)
		if e != api.OK || !same || g != api.OK {
			t.Fatalf("Print(%v, %v) = %q, which is read as %v, %v", o, f, s, back, e)
		}
		semicolon, _ := token.Kind(o.Table, ';')
		if again, e := readBack(o, s+"\n"); e != api.OK || !forms.Equal(again, back) || semicolon != token.Terminating {
			t.Fatalf("%q and a line feed are read as %v, %v", s, again, e)
		}
		if again, e := readBack(o, s+" ;x"); e != api.OK || !forms.Equal(again, back) {
			t.Fatalf("%q and a comment are read as %v, %v", s, again, e)
		}
	}
	if count < runs {
		t.Errorf("only %d forms were printed", count)
	}
}

func TestP8_3Sharing(t *testing.T) {
	r := source(2)
	for range runs {
		f := randomForm(r)
		for _, isCircle := range []bool{false, true} {
			o := with(func(o *printer.Options) { o.Circle = isCircle })
			a, e := printer.Print(o, f)
			same, g := forms.Plain(f)
			if isCircle {
				same, g = forms.Normal(f)
			}
			if g != api.OK {
				continue
			}
			if b, f := printer.Print(o, same); a != b || e != f {
				t.Fatalf("Print(%v) = %q, %v, and %q, %v of the same", f, a, e, b, f)
			}
		}
	}
}

func TestP8_4Limits(t *testing.T) {
	r := source(3)
	for range runs {
		f := randomForm(r)
		plain := with(func(o *printer.Options) { o.Circle = true })
		want, e := printer.Print(plain, f)
		nodes, depth := forms.Size(f)
		wide := with(func(o *printer.Options) { o.Circle, o.Length, o.Level = true, nodes+3, depth+2 }) // dimensions are below 3
		if got, g := printer.Print(wide, f); got != want || e != g {
			t.Fatalf("Print(%v) = %q, %v, not %q", f, got, g, want)
		}
	}
}

// slow writes a form without labels as the description says it, with strings.
func slow(o printer.Options, f api.Form, level, depth int) string {
	texts := func(l []api.Form) []string {
		var out []string
		for _, x := range l {
			out = append(out, slow(o, x, level+1, depth))
		}
		return out
	}
	brackets := func(open string, l []string, tail string) string {
		if level == o.Level {
			return "#"
		}
		if o.Length >= 0 && len(l) > o.Length {
			l, tail = append(l[:o.Length:o.Length], "..."), ""
		}
		return open + strings.Join(l, " ") + tail + ")"
	}
	last := len(f.Kids) - 1
	switch f.Kind {
	case api.FormVector:
		return brackets("#(", texts(f.Kids), "")
	case api.FormArray:
		if f.Text == "" {
			return "#0A" + slow(o, f.Kids[0], level, depth)
		}
		n, _ := strconv.Atoi(f.Text[:1])
		m, _ := strconv.Atoi(f.Text[2:])
		var rows []string
		for i := range n {
			row := vector(f.Kids[i*m : i*m+m]...)
			rows = append(rows, strings.Replace(slow(o, row, level+1, depth), "#(", "(", 1))
		}
		return "#2A" + brackets("(", rows, "")
	case api.FormCons:
		prefixes := map[string]string{"COMMON-LISP QUOTE": "'", "COMMON-LISP FUNCTION": "#'", "READER BACKQUOTE": "`"}
		if depth > 0 {
			prefixes["READER COMMA"], prefixes["READER SPLICE"] = ",", ",@"
		}
		prefix := prefixes[f.Kids[0].Home+" "+f.Kids[0].Text]
		if f.Kids[0].Kind == api.FormSymbol && last == 2 && forms.IsNil(f.Kids[2]) && prefix != "" && o.Abbrev {
			inner := depth
			switch prefix {
			case "`":
				inner++
			case ",", ",@":
				inner--
			}
			s := slow(o, f.Kids[1], level, inner)
			if prefix == "," && strings.HasPrefix(s, "@") {
				s = " " + s
			}
			return prefix + s
		}
		tail := ""
		if !forms.IsNil(f.Kids[last]) {
			tail = " . " + slow(o, f.Kids[last], level+1, depth)
		}
		return brackets("(", texts(f.Kids[:last]), tail)
	case api.FormSymbol:
		s, _ := printer.Symbol(o, f)
		return s
	case api.FormString:
		s, _ := printer.String(o, f.Text)
		return s
	case api.FormChar:
		c, _ := utf8.DecodeRuneInString(f.Text)
		s, _ := printer.Character(o, c)
		return s
	case api.FormBits:
		return "#*" + f.Text
	}
	s, _ := number.Print(f, o.Base, o.Radix, o.Double)
	return s
}

func TestP8_1Descriptions(t *testing.T) {
	r := source(4)
	for range 3 * runs {
		o := randomOptions(r)
		o.Length, o.Level, o.Escape = r.IntN(5)-1, r.IntN(5)-1, r.IntN(3) > 0
		f, e := forms.Plain(randomForm(r))
		if e != api.OK {
			continue
		}
		got, e := printer.Print(o, f)
		if e != api.OK {
			continue
		}
		if want := slow(o, f, 0, 0); got != want {
			t.Fatalf("Print(%v, %v) = %q, not %q", o, f, got, want)
		}
	}
}

func TestP8_6Lists(t *testing.T) {
	r := source(5)
	for range runs {
		f, e := forms.Plain(randomForm(r))
		l, ok := forms.Items(f)
		if e != api.OK || !ok || len(l) == 0 {
			continue
		}
		o := with(func(o *printer.Options) { o.Abbrev = false })
		var texts []string
		for _, x := range l {
			s, _ := printer.Print(o, x)
			texts = append(texts, s)
		}
		if got, e := printer.Print(o, f); e == api.OK && got != "("+strings.Join(texts, " ")+")" {
			t.Fatalf("Print(%v) = %q", f, got)
		}
	}
}

func TestP8_1AnyArguments(t *testing.T) {
	r := source(6)
	var any func(depth int) api.Form
	any = func(depth int) api.Form {
		f := api.Form{Kind: r.IntN(17) - 1, Text: pick(r, "", "1", "A", "2 2", "\xff", "1/2", "0", "7fc00000"), Home: pick(r, "", "", "P", "READER")}
		for range r.IntN(4) * min(depth, 1) {
			f.Kids = append(f.Kids, any(depth-1))
		}
		return f
	}
	for range 3 * runs {
		f, o := any(3), randomOptions(r)
		o.Level, o.Length, o.Circle, o.Readable = r.IntN(4)-2, r.IntN(4)-2, r.IntN(2) == 0, r.IntN(2) == 0
		if s, e := printer.Print(o, f); e != api.OK && s != "" {
			t.Fatal("a result with an error")
		}
		if s, e := printer.Lines(o, []api.Form{f, f}); e != api.OK && s != "" {
			t.Fatal("a result with an error")
		}
	}
}
