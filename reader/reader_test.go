package reader

import (
	"slices"
	"strconv"
	"strings"
	"testing"

	"commonform/api"
	"commonform/forms"
	"commonform/token"
)

// show writes a form for people: symbols as HOME/NAME, those of the package P by their names.
func show(f api.Form) string {
	inner := func(l []api.Form) string {
		var out []string
		for _, x := range l {
			out = append(out, show(x))
		}
		return strings.Join(out, " ")
	}
	last := len(f.Kids) - 1
	switch f.Kind {
	case 0:
		return ""
	case api.FormSymbol:
		switch {
		case forms.IsNil(f):
			return "NIL"
		case f.Home == "P":
			return f.Text
		}
		return f.Home + "/" + f.Text
	case api.FormInt, api.FormRatio:
		return f.Text
	case api.FormSingle:
		return "s" + f.Text
	case api.FormDouble:
		return "d" + f.Text
	case api.FormComplex:
		return "c{" + inner(f.Kids) + "}"
	case api.FormChar:
		return "char:" + f.Text
	case api.FormString:
		return strconv.Quote(f.Text)
	case api.FormBits:
		return "*" + f.Text
	case api.FormCons:
		if forms.IsNil(f.Kids[last]) {
			return "(" + inner(f.Kids[:last]) + ")"
		}
		return "(" + inner(f.Kids[:last]) + " . " + show(f.Kids[last]) + ")"
	case api.FormVector:
		return "[" + inner(f.Kids) + "]"
	case api.FormArray:
		return "<" + f.Text + ">[" + inner(f.Kids) + "]"
	case api.FormLabel:
		return f.Text + "=" + show(f.Kids[0])
	}
	return f.Text + "#"
}

func sameResult(a, b Result) bool {
	return forms.Equal(a.Form, b.Form) && slices.Equal(a.References, b.References) && a.From == b.From && a.To == b.To
}

func usual() Options {
	o := Standard("P")
	o.Features = []string{"SMALL", "q"}
	return o
}

// nested returns a text with n forms within one another.
func nested(n int) string { return strings.Repeat("(", n) + strings.Repeat(")", n) }

func TestP7_1Forms(t *testing.T) {
	for in, want := range map[string]string{
		"a": "A", "\\|": "|", "|a b|": "a b", "p:a": "A", "q::a": "Q/A", ":a": "KEYWORD/A", ":||": "KEYWORD/", "READER::comma": "READER/COMMA",
		"12": "12", "-012": "-12", "+6/4": "3/2", "1.": "1", "1.5": "s3fc00000", "1d0": "d3ff0000000000000", "1+": "1+", "\\12": "12", "|1|": "1", "-": "-", "1e": "1E",
		"\"a\\\"b\\\\;|\n\"": `"a\"b\\;|\n"`, "\"\"": `""`,
		"'a": "(COMMON-LISP/QUOTE A)", "' ; x\n a": "(COMMON-LISP/QUOTE A)", "''a": "(COMMON-LISP/QUOTE (COMMON-LISP/QUOTE A))", "#'a": "(COMMON-LISP/FUNCTION A)",
		"`a": "(READER/BACKQUOTE A)", "`,a": "(READER/BACKQUOTE (READER/COMMA A))", "`(,@a , @b)": "(READER/BACKQUOTE ((READER/SPLICE A) (READER/COMMA @B)))",
		"`(a `(,,b))": "(READER/BACKQUOTE (A (READER/BACKQUOTE ((READER/COMMA (READER/COMMA B))))))", "`#(,a)": "(READER/BACKQUOTE [(READER/COMMA A)])",
		"()": "NIL", "( )": "NIL", "(())": "(NIL)", "(a b)": "(A B)", "(a . b)": "(A . B)", "(a . (b c))": "(A B C)", "(a . ())": "(A)", "(a b . c)": "(A B . C)", "(a . #1=(b))": "(A . 1=(B))",
		"(a .b)": "(A .B)", "(a.b)": "(A.B)", "(a . ; x\n b #| y |# )": "(A . B)", "(a #-small b . c)": "(A . C)", "(a . #-small b c)": "(A . C)", "(a #|x|# . b)": "(A . B)",
		"(a #-small b)": "(A)", "(#-small b)": "NIL", "(#+small b)": "(B)", "(a;)\n)": "(A)", "(a #+nope #+small x y z)": "(A Y Z)",
		"#+(and) a": "A", "#-(or) a": "A", "#+(or nope :small) a": "A", "#-(not small) a": "A", "#+|q| a": "A",
		"#\\a": "char:a", "#\\(": "char:(", "#\\ ": "char: ", "#\\A": "char:A", "#\\;": "char:;", "#\\\\": "char:\\", "#\\|": "char:|", "#\\#": "char:#",
		"#\\space": "char: ", "#\\SPACE": "char: ", "#\\u00e9": "char:é", "#\\U10ffff": "char:\U0010ffff", "#\\é": "char:é", "#\\s|pac|\\e": "char: ", "#\\a||": "char:a", "#\\\x01": "char:\x01",
		"#()": "[]", "#(a b)": "[A B]", "#3(a b)": "[A B B]", "#0()": "[]", "#2(a b)": "[A B]", "#002((a) #1=b)": "[(A) 1=B]", "#(#(a))": "[[A]]", "#2(#1=a b)": "[1=A B]",
		"#3(\"x\")": `["x" "x" "x"]`, "#2(#| |# a ;\n)": "[A A]",
		"#*": "*", "#*01": "*01", "#5*01": "*01111", "#0*": "*", "(#* 1)": "(* 1)", "#2*0": "*00",
		"#:a": "/A", "#:||": "/", "(#: a)": "(/ A)", "#:12": "/12", "#:|a:b|": "/a:b", "#:..": "/..",
		"#b101": "5", "#o-17": "-15", "#xFf": "255", "#x1/2": "1/2", "#3r102": "11", "#36rz": "35", "#x10.": "10", "#B1": "1",
		"#c(1 0)": "1", "#C(1 2)": "c{1 2}", "#c(1.0 2)": "c{s3f800000 s40000000}", "#c(#c(1 0) 2)": "c{1 2}", "#c(1/2 -1)": "c{1/2 -1}", "#c(1 . (2))": "c{1 2}",
		"#0aa": "<>[A]", "#0a(a)": "<>[(A)]", "#1a(a b)": "[A B]", "#2a((1 2) (3 4))": "<2 2>[1 2 3 4]", "#2A(\"ab\" #(1 2) #*10)": "<3 2>[char:a char:b 1 2 1 0]",
		"#3a((() ()))": "<1 2 0>[]", "#7a()": "<0 0 0 0 0 0 0>[]", "#2a((#1=(a) #1#))": "<1 2>[1=(A) 1#]", "#1a\"ab\"": "[char:a char:b]", "#2a(#1(a) (#2=b))": "<2 1>[A 2=B]",
		"#1=a": "1=A", "#001=(a . #1#)": "1=(A . 1#)", "(#1=(a) #1#)": "(1=(A) 1#)", "#1=(#2=(#1# #2#))": "1=(2=(1# 2#))", "(#-small #1=a #1=b #1#)": "(1=B 1#)",
		"#||#a": "A", "#|#||#|#a": "A", ";\na": "A", "#|a|b|#c": "C", "#'#|x|#a": "(COMMON-LISP/FUNCTION A)",
	} {
		r, at, e := Read(usual(), in, 0)
		if e != api.OK || at != 0 || show(r.Form) != want {
			t.Errorf("Read(%q) = %s, %d, %v, not %s", in, show(r.Form), at, e, want)
		}
	}
}

func TestP7_1Places(t *testing.T) {
	for _, x := range []struct {
		in           string
		at, from, to int
		want         string
	}{
		{"  a b", 0, 2, 3, "A"}, {"  a b", 3, 4, 5, "B"}, {"a b", 1, 2, 3, "B"}, {"ab", 1, 1, 2, "B"}, {";x\n(a)b", 0, 3, 6, "(A)"}, {"#|x|#'a)", 0, 5, 7, "(COMMON-LISP/QUOTE A)"},
		{"#-small x é y", 0, 10, 12, "é"}, {"#+small x y", 0, 0, 9, "X"}, {"a(b", 0, 0, 1, "A"}, {"a;b", 0, 0, 1, "A"}, {"#*(", 0, 0, 2, "*"}, {"#:(", 0, 0, 2, "/"}, {"#\\ab(", 4, 4, 5, ""},
		{"#\\a(b", 0, 0, 3, "char:a"}, {"|a|b c", 0, 0, 4, "aB"}, {"\"a\"b", 0, 0, 3, `"a"`}, {"#\\a\x01", 0, 0, 3, "char:a"}, {"() ()", 2, 3, 5, "NIL"},
	} {
		r, at, e := Read(usual(), x.in, x.at)
		if x.want == "" {
			if e != api.ErrEnd {
				t.Errorf("Read(%q, %d): %v", x.in, x.at, e)
			}
			continue
		}
		if e != api.OK || at != 0 || show(r.Form) != x.want || r.From != x.from || r.To != x.to {
			t.Errorf("Read(%q, %d) = %s from %d to %d, %d, %v, not %s from %d to %d", x.in, x.at, show(r.Form), r.From, r.To, at, e, x.want, x.from, x.to)
		}
	}
}

func TestP7_1References(t *testing.T) {
	in := "(a q:b q::c :d #:e 'f #+g h #+(or :small r) i #-small (j #1=k) #2(l) () #c(1 2) |m|)"
	want := []Reference{
		{"P", "A", false, 1}, {"Q", "B", true, 3}, {"Q", "C", false, 7}, {"KEYWORD", "D", false, 12}, {"P", "F", false, 20},
		{"P", "I", false, 44}, {"P", "L", false, 66}, {"P", "m", false, 80},
	}
	r, _, e := Read(usual(), in, 0)
	if e != api.OK || !slices.Equal(r.References, want) {
		t.Errorf("References = %v, %v, not %v", r.References, e, want)
	}
	for _, x := range want {
		n := strings.ToLower(x.Name)
		if x.Home == "Q" {
			n = "q:"
		}
		if x.Home == "KEYWORD" {
			n = ":d"
		}
		if !strings.HasPrefix(strings.TrimPrefix(in[x.At:], "|"), n) {
			t.Errorf("%v does not stand at %d", x, x.At)
		}
	}
}

func TestP7_1Errors(t *testing.T) {
	deep := strings.Repeat("(", 100)
	for _, x := range []struct {
		in string
		at int
		e  api.Errno
	}{
		{"", 0, api.ErrNone}, {" ", 1, api.ErrNone}, {"#-small x ", 10, api.ErrNone}, {"#|x|#", 5, api.ErrNone},
		{"#-small", 7, api.ErrEnd}, {"#+", 2, api.ErrEnd}, {"#+small", 7, api.ErrEnd}, {"#+small ;", 9, api.ErrEnd}, {"'", 1, api.ErrEnd}, {"(a", 2, api.ErrEnd}, {"(a . b", 6, api.ErrEnd}, {"(a .", 4, api.ErrEnd}, {"#", 1, api.ErrEnd}, {"#1", 2, api.ErrEnd},
		{"#\\", 2, api.ErrEnd}, {"|a", 2, api.ErrEnd}, {"a\\", 2, api.ErrEnd}, {"\"a\\\"", 4, api.ErrEnd}, {"\"\\", 2, api.ErrEnd}, {"#|a|", 4, api.ErrEnd}, {"(#|", 3, api.ErrEnd}, {"#|#||#", 6, api.ErrEnd}, {"#(a", 3, api.ErrEnd}, {"#x|", 3, api.ErrEnd}, {"#\\a|", 4, api.ErrEnd}, {"#*|", 3, api.ErrEnd}, {"`(a ,", 5, api.ErrEnd},
		{" \x01", 1, token.ErrInvalid}, {"(a b\x01)", 3, token.ErrInvalid}, {"(a #xb\x01)", 3, token.ErrInvalid}, {"(#\\ab\x01)", 1, token.ErrInvalid}, {"(#\\a#\x01)", 1, token.ErrInvalid}, {"#\\a \x01", -1, api.OK},
		{"(a ..)", 3, token.ErrDots}, {".", 0, token.ErrDots}, {"(a . . b)", 5, token.ErrDots}, {"'.", 1, token.ErrDots}, {"(a '. b)", 4, token.ErrDots},
		{"(a :)", 3, token.ErrMarker}, {"#:a:b", 0, token.ErrMarker}, {" #: ", -1, api.OK}, {"(#::a)", 1, token.ErrMarker},
		{")", 0, ErrClose}, {"')", 1, ErrClose}, {"(a . )", 5, ErrClose}, {"(')", 2, ErrClose}, {"#'  )", 4, ErrClose}, {"(a . ;\n)", 7, ErrClose}, {"(a . #-small b )", 15, ErrClose},
		{",a", 0, ErrComma}, {"(a ,b)", 3, ErrComma}, {"`(,a ,(,b))", 7, ErrComma}, {"`a ,b", -1, api.OK}, {"`,,a", 2, ErrComma}, {"(`a ,b)", 4, ErrComma}, {"`(,@(,a))", 5, ErrComma},
		{"(. a)", 1, ErrDot}, {"( . )", 2, ErrDot}, {"(a . b c)", 3, ErrDot}, {"(a . b . c)", 3, ErrDot}, {"(a . b #-small c)", 3, ErrDot}, {"(#-small a . b)", 11, ErrDot}, {"#(a . b)", 4, ErrDot}, {"#(.)", 2, ErrDot}, {"(a . b #|", 9, api.ErrEnd}, {"(a . b ;", 8, api.ErrEnd},
		{"#<", 0, ErrHash}, {"# a", 0, ErrHash}, {"#)", 0, ErrHash}, {"(a #é)", 3, ErrHash}, {"#1234(a)", 0, ErrHash}, {"#0000", 0, ErrHash}, {"#2'x", 0, ErrHash}, {"#2\\x", 0, ErrHash}, {"#2:x", 0, ErrHash}, {"#2b1", 0, ErrHash}, {"#2o1", 0, ErrHash}, {"#2x1", 0, ErrHash},
		{"#2c(1 2)", 0, ErrHash}, {"#2|x|#", 0, ErrHash}, {"#2+a b", 0, ErrHash}, {"#2-a b", 0, ErrHash}, {"#a(1)", 0, ErrHash}, {"#=a", 0, ErrHash}, {"##", 0, ErrHash}, {"#r1", 0, ErrHash}, {"#1r1", 0, ErrHash}, {"#37r1", 0, ErrHash}, {"#0r1", 0, ErrHash}, {"#37r", 0, ErrHash},
		{"#\\foo", 0, ErrChar}, {"#\\ud800", 0, ErrChar}, {"#\\(a", 0, ErrChar}, {"('#\\spac)", 2, ErrChar}, {"#\\a#b", 0, ErrChar},
		{"#1(a b)", 0, ErrShape}, {"#1()", 0, ErrShape}, {"#0(a)", 0, ErrShape}, {"#2(#1=a)", 0, ErrShape}, {"#2((#1=a))", 0, ErrShape}, {"#1*01", 0, ErrShape}, {"#1*", 0, ErrShape}, {"#0*1", 0, ErrShape},
		{"#*2", 0, api.ErrForm}, {"#*|1|", 0, api.ErrForm}, {"#*0\\1", 0, api.ErrForm}, {"#1*2", 0, api.ErrForm}, {"#*1:", 0, api.ErrForm},
		{"#xg", 0, api.ErrForm}, {"#x", 0, api.ErrForm}, {"#x|1|", 0, api.ErrForm}, {"#x1.5", 0, api.ErrForm}, {"#b2", 0, api.ErrForm}, {"#x1/0", 0, api.ErrZero}, {"#o1e99", 0, api.ErrOver}, {"#x ", 0, api.ErrForm}, {"#x|1/0|", 0, api.ErrForm},
		{"#ca", 0, api.ErrForm}, {"#c(1)", 0, api.ErrForm}, {"#c(1 2 3)", 0, api.ErrForm}, {"#c(1 . 2)", 0, api.ErrForm}, {"#c(1 a)", 0, api.ErrForm}, {"#c(a 1)", 0, api.ErrForm}, {"#c(1 #c(1 2))", 0, api.ErrForm}, {"#c#1=(1 2)", 0, api.ErrForm}, {"#c(#1=1 2)", 0, api.ErrForm}, {"#c(1 1:)", 5, token.ErrMarker}, {"#c()", 0, api.ErrForm}, {"#c#(1 2)", 0, api.ErrForm},
		{"(a 1/0)", 3, api.ErrZero}, {"'1e99", 1, api.ErrOver},
		{"#2a((1) (2 3))", 0, ErrShape}, {"#1aa", 0, ErrShape}, {"#2a(1)", 0, ErrShape}, {"#8a()", 0, api.ErrArg}, {"#1a#1=(a)", 0, ErrShape}, {"#2a(#1=(a))", 0, ErrShape}, {"#1a(a . b)", 0, ErrShape}, {"#2a #(() 1)", 0, ErrShape},
		{"#+a:b:c x", 2, token.ErrMarker}, {"#+12 x", 0, api.ErrForm}, {"#+q:x b a", 0, api.ErrForm}, {"#+#:small b", 0, api.ErrForm}, {"#| |#|#", 7, api.ErrEnd}, {"#+() x", 0, api.ErrForm}, {"#+x y:", 4, token.ErrMarker}, {"(#-(xor) )", 1, api.ErrForm}, {"#-#1=small x", 0, api.ErrForm},
		{"(#1=a #1=b)", 6, api.ErrTwice}, {"#1=(#1=a)", 4, api.ErrTwice}, {"(#1=a #-small #1=b)", 14, api.ErrTwice}, {"(#1=a #+(or #1=b) c)", 12, api.ErrTwice},
		{"#1#", 0, forms.ErrLabel}, {"(a #1# #1=b)", 3, forms.ErrLabel}, {"#1=#1#", 0, forms.ErrLabel}, {"(a #1=#2=b)", 3, forms.ErrLabel}, {"(#-small #1=a #1#)", 14, forms.ErrLabel}, {"(#+(or #1=a) b #1#)", 1, api.ErrForm}, {"#1='#1#", -1, api.OK},
		{nested(100), -1, api.OK}, {nested(101), 100, api.ErrSize}, {deep + "a", 100, api.ErrSize}, {deep + " \x01", 101, api.ErrSize}, {deep, 100, api.ErrEnd}, {deep + ";x\n#|y|#" + strings.Repeat(")", 100), -1, api.OK},
		{deep[1:] + "#-x y" + strings.Repeat(")", 99), 101, api.ErrSize}, {deep[2:] + "#-small y" + strings.Repeat(")", 98), -1, api.OK}, {deep + "..", 100, api.ErrSize}, {deep + ".", 100, ErrDot}, {deep[1:] + "')", 100, api.ErrSize}, {deep[1:] + "#(.", 101, ErrDot},
		{strings.Repeat("'", 99) + "a", -1, api.OK}, {strings.Repeat("'", 100) + "a", 100, api.ErrSize}, {strings.Repeat("'", 100) + ")", 100, api.ErrSize}, {strings.Repeat("'", 100), 100, api.ErrEnd}, {strings.Repeat("'", 100) + ",", 100, api.ErrSize}, {strings.Repeat("'", 100) + "#2|", 100, api.ErrSize},
	} {
		r, at, e := Read(usual(), x.in, 0)
		if x.e == api.OK {
			if e != api.OK || at != 0 || forms.Check(r.Form) != api.OK {
				t.Errorf("Read(%q): %d, %v", x.in, at, e)
			}
			continue
		}
		if e != x.e || at != x.at || !sameResult(r, Result{}) {
			t.Errorf("Read(%q) = %v, %d, %v, not an error at %d, %v", x.in, r, at, e, x.at, x.e)
		}
	}
}

func TestP7_1Readtables(t *testing.T) {
	set := func(l ...any) Options {
		o := usual()
		for i := 0; i < len(l); i += 2 {
			o.Table, _ = token.Set(o.Table, l[i].(rune), l[i+1].(int))
		}
		return o
	}
	full := usual()
	for i := range token.MaxEntries {
		full.Table.Entries = append(full.Table.Entries, token.Entry{Char: rune(0x400 + i), Kind: token.Nonterminating})
	}
	preserve := usual()
	preserve.Table.Case = token.Invert
	for _, x := range []struct {
		o    Options
		in   string
		want string
		at   int
		e    api.Errno
	}{
		{set('!', token.Terminating), "a!", "A", 0, api.OK}, {set('!', token.Terminating), "(a !)", "", 3, ErrMacro}, {set('!', token.Nonterminating), "!", "", 0, ErrMacro}, {set('!', token.Nonterminating), "a!b", "A!B", 0, api.OK},
		{set('\'', token.Constituent), "'a", "'A", 0, api.OK}, {set('(', token.Nonterminating, ')', token.Nonterminating), "(a )", "(A)", 0, api.OK}, {set(')', token.Constituent), "(a )", "", 4, api.ErrEnd},
		{set(';', token.Constituent), ";a", ";A", 0, api.OK}, {set(';', token.Nonterminating), ";a\nb", "B", 0, api.OK}, {set('#', token.Constituent), "#|a|#", "#a#", 0, api.OK}, {set('#', token.Terminating), "(a#|x|#)", "(A)", 0, api.OK},
		{set('|', token.White), "|a|", "A", 0, api.OK}, {set('|', token.White), "#|a|#b", "B", 0, api.OK}, {set('\n', token.Constituent), ";x\na", "\nA", 0, api.OK}, {set('!', token.Single), "\"a!\"\"", `"a\""`, 0, api.OK}, {set('\\', token.Constituent), "\"a\\\"", `"a\\"`, 0, api.OK},
		{set('"', token.Multiple), "\"a\"", "a", 0, api.OK}, {set('@', token.White), "`(,@a)", "(READER/BACKQUOTE ((READER/SPLICE A)))", 0, api.OK}, {set('*', token.White, '=', token.Invalid), "#*1", "*1", 0, api.OK}, {set('=', token.Invalid), "#1=a", "1=A", 0, api.OK},
		{set('!', token.Nonterminating), "#\\a!", "", 0, ErrChar}, {set('a', token.Nonterminating), "#\\spac#\\x", "", 0, ErrChar}, {set('a', token.Nonterminating, 'p', token.Nonterminating), "#\\space", "char: ", 0, api.OK}, {full, "#\\a#", "", 0, ErrChar}, {full, "#\\\u0400\u0401", "", 0, ErrChar}, {full, "a\u0400", "A\u0400", 0, api.OK},
		{preserve, "#\\Space", "char: ", 0, api.OK}, {preserve, "Foo", "Foo", 0, api.OK}, {preserve, "foo", "FOO", 0, api.OK}, {set('1', token.Terminating), "#1=a", "1=A", 0, api.OK}, {set('.', token.Single), "(a .. b)", "(A . B)", 0, api.OK}, {set('.', token.Terminating), "(a . b)", "", 3, ErrMacro},
		{set('x', token.Multiple), "#\\axb", "", 5, api.ErrEnd}, {set('x', token.Multiple), "#xff", "255", 0, api.OK}, {set(' ', token.Constituent), "(a b)", "(A B)", 0, api.OK},
	} {
		r, at, e := Read(x.o, x.in, 0)
		if show(r.Form) != x.want || at != x.at || e != x.e {
			t.Errorf("Read(%v, %q) = %s, %d, %v, not %s, %d, %v", x.o.Table, x.in, show(r.Form), at, e, x.want, x.at, x.e)
		}
	}
}

func TestP7_1Bases(t *testing.T) {
	for _, x := range []struct {
		base     int
		isDouble bool
		in, want string
	}{
		{16, false, "ff", "255"}, {16, false, "10.", "10"}, {36, false, "cons", "591832"}, {2, false, "12", "12"}, {10, true, "1.0", "d3ff0000000000000"}, {10, true, "1f0", "s3f800000"},
		{16, true, "1e5", "485"}, {16, false, "#10r12", "12"}, {16, false, "#10(1)", "[1 1 1 1 1 1 1 1 1 1]"}, {10, true, "#c(1.0 1)", "c{d3ff0000000000000 d3ff0000000000000}"},
	} {
		o := usual()
		o.Base, o.Double = x.base, x.isDouble
		r, _, e := Read(o, x.in, 0)
		if x.in == "12" {
			x.want = "12"
		}
		if e != api.OK || show(r.Form) != x.want {
			t.Errorf("Read(%d, %v, %q) = %s, %v, not %s", x.base, x.isDouble, x.in, show(r.Form), e, x.want)
		}
	}
	o := usual()
	o.Base = 2
	if r, _, _ := Read(o, "12", 0); r.Form.Kind != api.FormSymbol {
		t.Errorf("12 in the base 2 is %v", r.Form)
	}
}

func TestP7_1Options(t *testing.T) {
	long, bad := strings.Repeat("a", 101), "\xff"
	many := make([]string, 65)
	for _, x := range []struct {
		o Options
		e api.Errno
	}{
		{usual(), api.OK}, {Standard(long[1:]), api.OK}, {Options{Base: 2, Package: "A", Features: slices.Repeat([]string{"a"}, 64)}, api.OK}, {Options{Base: 36, Package: "A", Features: []string{long[1:]}}, api.OK},
		{Options{Table: token.Table{Case: 4}}, api.ErrArg}, {Options{Table: token.Table{Entries: make([]token.Entry, 65)}}, api.ErrSize},
		{Options{Base: 1, Package: long}, api.ErrArg}, {Options{Base: 37, Package: long}, api.ErrArg}, {Options{Base: 10, Features: many}, api.ErrArg},
		{Options{Base: 10, Package: bad, Features: many}, api.ErrSize}, {Options{Base: 10, Package: long + bad}, api.ErrSize}, {Options{Base: 10, Package: bad, Features: []string{"a", long}}, api.ErrSize},
		{Options{Base: 10, Package: bad, Features: []string{"a", ""}}, api.ErrArg}, {Options{Base: 10, Package: bad, Features: []string{"a"}}, api.ErrForm}, {Options{Base: 10, Package: "A", Features: []string{"a", bad}}, api.ErrForm}, {Options{Base: 10, Package: "A", Features: []string{"", long}}, api.ErrArg}, {Options{Base: 10, Package: "A", Features: []string{bad, long}}, api.ErrForm}, {Options{Base: 10, Package: "A", Features: []string{long + bad, ""}}, api.ErrSize},
	} {
		if e := Check(x.o); e != x.e {
			t.Errorf("Check(%.60v) = %v, not %v", x.o, e, x.e)
		}
		if x.e == api.OK {
			continue
		}
		if r, at, e := Read(x.o, bad, -1); !sameResult(r, Result{}) || at != 0 || e != x.e {
			t.Errorf("Read: %v, %d, %v, not %v", r, at, e, x.e)
		}
		if l, at, e := All(x.o, bad); l != nil || at != 0 || e != x.e {
			t.Errorf("All: %v, %d, %v, not %v", l, at, e, x.e)
		}
		if r, at, e := One(x.o, bad); !sameResult(r, Result{}) || at != 0 || e != x.e {
			t.Errorf("One: %v, %d, %v, not %v", r, at, e, x.e)
		}
		if n, at, e := Blank(x.o, bad, -1); n != 0 || at != 0 || e != x.e {
			t.Errorf("Blank: %v, %d, %v, not %v", n, at, e, x.e)
		}
	}
	if o := Standard("Q"); o.Base != 10 || o.Package != "Q" || o.Double || len(o.Features) != 0 || o.Table.Case != token.Upcase || len(o.Table.Entries) != 0 {
		t.Errorf("Standard = %v", o)
	}
}

func TestP7_1TextsAndPlaces(t *testing.T) {
	for _, x := range []struct {
		s  string
		at int
		e  api.Errno
	}{{strings.Repeat("\xff", 4001), -1, api.ErrSize}, {"a\xff", -1, api.ErrForm}, {"a", -1, api.ErrArg}, {"a", 2, api.ErrArg}, {"é", 1, api.ErrArg}} {
		if _, at, e := Read(usual(), x.s, x.at); at != 0 || e != x.e {
			t.Errorf("Read(%.5q, %d): %d, %v", x.s, x.at, at, e)
		}
		if n, at, e := Blank(usual(), x.s, x.at); n != 0 || at != 0 || e != x.e {
			t.Errorf("Blank(%.5q, %d): %d, %d, %v", x.s, x.at, n, at, e)
		}
		if x.e == api.ErrArg {
			continue
		}
		if l, at, e := All(usual(), x.s); l != nil || at != 0 || e != x.e {
			t.Errorf("All(%.5q): %d, %v", x.s, at, e)
		}
		if _, at, e := One(usual(), x.s); at != 0 || e != x.e {
			t.Errorf("One(%.5q): %d, %v", x.s, at, e)
		}
	}
}

func TestP7_1Blank(t *testing.T) {
	for _, x := range []struct {
		in             string
		at, next, fail int
		e              api.Errno
	}{
		{"", 0, 0, 0, api.OK}, {"a", 0, 0, 0, api.OK}, {" \t;x\n#|y|# a", 0, 11, 0, api.OK}, {";x", 0, 2, 0, api.OK}, {"#-a b", 0, 0, 0, api.OK}, {"#1|a|#", 0, 0, 0, api.OK}, {" #|a", 0, 0, 4, api.ErrEnd}, {"#|#||#", 0, 0, 6, api.ErrEnd},
		{"#|#||#|#)", 0, 8, 0, api.OK}, {"é ;x", 2, 5, 0, api.OK}, {"#|||#a", 0, 5, 0, api.OK}, {"#|", 0, 0, 2, api.ErrEnd}, {"#|#", 0, 0, 3, api.ErrEnd}, {"\x01", 0, 0, 0, api.OK},
	} {
		if next, at, e := Blank(usual(), x.in, x.at); next != x.next || at != x.fail || e != x.e {
			t.Errorf("Blank(%q, %d) = %d, %d, %v", x.in, x.at, next, at, e)
		}
	}
	o := usual()
	o.Table, _ = token.Set(o.Table, ';', token.Constituent)
	o.Table, _ = token.Set(o.Table, '#', token.Single)
	for _, in := range []string{";x", "#|x|#"} {
		if next, at, e := Blank(o, in, 0); next != 0 || at != 0 || e != api.OK {
			t.Errorf("Blank(%q) = %d, %d, %v", in, next, at, e)
		}
	}
}

func TestP7_1Sizes(t *testing.T) {
	many := strings.Repeat("'a", 499) // of 4 nodes each
	for _, x := range []struct {
		in string
		at int
		e  api.Errno
	}{
		{"(" + many + ")", 0, api.OK}, {";\n(" + many + " a b c)", 2, api.ErrSize}, {";\n(" + many + " a b)", 0, api.OK}, {"#999(#999(#999(1)))", 0, api.ErrSize}, {"#2(#999(1))", 0, api.ErrSize}, {"#999((a) #1(b))", 0, api.OK}, {"#999(a #2(b))", 0, api.ErrSize}, {"(#999(1) #999(1))", 0, api.ErrSize}, {"(#999(1) #998(1))", 0, api.ErrSize}, {"(#999(1) #997(1))", 0, api.OK},
		{"(#-small #999(#999(1)) a)", 0, api.OK}, {"#c#999(#999(1))", 0, api.ErrForm}, {"(#+#999(#999(1)) a)", 1, api.ErrForm}, {" #1a#999(#999(1))", 1, api.ErrSize}, {"(#999(#1=a #999(#999(1))))", 0, api.ErrSize},
		{"#2(#999(#1=a #999(#999(1))))", 0, ErrShape}, {"#999(a #1=a)", 0, ErrShape}, {strings.Repeat("#999(", 90) + "1" + strings.Repeat(")", 90), 0, api.ErrSize}, {"#2a(\"" + strings.Repeat("x", 2001) + "\")", 0, api.ErrSize}, {"#1a\"" + strings.Repeat("x", 2001) + "\"", 0, api.ErrSize},
		{"#1a\"" + strings.Repeat("x", 2000) + "\"", 0, api.ErrSize}, {"#1a\"" + strings.Repeat("x", 1999) + "\"", 0, api.OK}, {"#2a(" + strings.Repeat("\""+strings.Repeat("x", 50)+"\"", 41) + ")", 0, api.ErrSize},
		{"(#-small #+(and small " + many + ") x)", 9, api.ErrForm},
	} {
		r, at, e := Read(usual(), x.in, 0)
		if e != x.e || at != x.at {
			t.Errorf("Read(%.40q): %d, %v, not %d, %v", x.in, at, e, x.at, x.e)
		}
		if e == api.OK && forms.Check(r.Form) != api.OK {
			t.Errorf("Read(%.40q) is no right form", x.in)
		}
	}
}
