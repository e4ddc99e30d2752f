package format_test

import (
	"strings"
	"testing"

	"commonform/api"
	"commonform/format"
	"commonform/forms"
	"commonform/reader"
)

func leaf(kind int, text string) api.Form { return api.Form{Kind: kind, Text: text} }

func whole(s string) api.Form { return leaf(api.FormInt, s) }

func text(s string) api.Form { return leaf(api.FormString, s) }

// parsed reads forms whose symbols are those of COMMON-LISP.
func parsed(t *testing.T, s string) []api.Form {
	t.Helper()
	r, _, e := reader.One(reader.Standard("COMMON-LISP"), "("+s+")")
	if e != api.OK {
		t.Fatalf("%s: %v", s, e)
	}
	l, ok := forms.Items(r.Form)
	if !ok {
		t.Fatal(s)
	}
	return l
}

// output is an output that a control string must have for arguments that are read.
type output struct{ control, args, want string }

func checkOutputs(t *testing.T, l []output) {
	t.Helper()
	for _, x := range l {
		checkFormat(t, x.control, parsed(t, x.args), x.want, api.OK)
	}
}

// failure is an error that a right control string must have.
type failure struct {
	control, args string
	e             api.Errno
}

func checkFailures(t *testing.T, l []failure) {
	t.Helper()
	for _, x := range l {
		checkFormat(t, x.control, parsed(t, x.args), "", x.e)
	}
}

func checkFormat(t *testing.T, control string, args []api.Form, want string, e api.Errno) {
	t.Helper()
	s, got := format.Format(control, args)
	if s != want || got != e {
		t.Errorf("%.100q of %.200v: %.100q, %v, not %.100q, %v", control, args, s, got, want, e)
	}
	if e := format.Check(control); e != api.OK {
		t.Errorf("Check(%.100q) = %v", control, e)
	}
}

func TestP13_1Check(t *testing.T) {
	nested := func(n int) string { return strings.Repeat("~(", n) + strings.Repeat("~)", n) }
	for _, s := range []string{
		"", "plain", "\xff\x00~~", strings.Repeat("a", 4000), "~a~A~s~d~b~o~x~r~c~f~$~p~%~|~&~t~*~?~^", "~\n", "~:@\n  x",
		"~,,,a", "~1,2,3,'xA", "~,,,D", "~,,,,R", "~,,,,F", "~,,,$", "~,T", "~,,^", "~,,,<~>", "~+5D", "~-5D", "~007D", "~123456789D", "~-123456789D", "~'~A", "~,,,'xA", "~,,,''A", "~,,,',A", "~v,V,#D", "~'aD", "~:@D", "~@:D", "~:a", "~@%", "~:@C",
		"~(~)", "~:@(~:)", "~[~]", "~[a~;b~:;c~]", "~[~:;~]", "~:[~;~]", "~@[~]", "~:[~;~:]", "~@[~@]", "~[~@;~]", "~2[~]", "~{~}", "~:@{~:@}", "~5{~}", "~<~>", "~:@<~;~;~>", "~<~@;~>", "~#[~]", "~v{~}",
		"~:{~:^~}", "~:@{~:^~}", "~:{~(~[~:^~]~)~}", "~{~:{~:^~}~}", "~<~:{~:^~}~>", "~:{~1,2:^~}", nested(20), "~(~)" + nested(20), "~@*", "~:*", "~:@?", "~@T",
	} {
		if e := format.Check(s); e != api.OK {
			t.Errorf("Check(%q) = %v", s, e)
		}
	}
	for _, s := range []string{
		"~", "a~", "~5", "~:", "~@", "~'", "~'a", "~,", "~5,", "~v", "~#", "~q", "~E", "~G", "~W", "~I", "~ ", "~\x00", "~é", "~Q", "~_", "~/", "~.", "~-D", "~+D", "~--5D", "~1234567890D", "~-1234567890D", "~5 D", "~1.5D", "~::D", "~@@D", "~:@:D", "~:5D", "~@'xD", "~:,D", "~vvD", "~5vD", "~v5D", "~##D",
		"~,,,,A", "~1,2,3,4,5S", "~,,,,D", "~,,,,,R", "~1C", "~,C", "~,,,,,F", "~,,,,$", "~1P", "~1,2%", "~,%", "~1,1|", "~1,1~", "~,&", "~1\n", "~,,T", "~1,2*", "~1?", "~1(~)", "~(~1)", "~1,2[~]", "~[~1]", "~[~1;~]", "~1,2{~}", "~{~1}", "~,,,,<~>", "~<~1>", "~,,,^",
		"~(", "~)", "~[", "~]", "~{", "~}", "~<", "~>", "~;", "~(~]", "~[~)", "~{~>", "~<~}", "~(~[~)~]", "~(a~;b~)", "~{a~;b~}", "~(~(~)", "~[~(~;~)~]", "~:;", nested(21), "~(~" + nested(20) + "~)", strings.Repeat("~[~<~{~(", 5) + "~(~)",
		"~:[~]", "~:[a~]", "~:[a~;b~;c~]", "~@[a~;b~]", "~:@[~]", "~@:[a~;b~]", "~:[a~:;b~]", "~@[~:;~]", "~[a~:;b~;c~]", "~[a~:;b~:;c~]", "~<a~:;b~>", "~<a~:@;b~>",
		"~:T", "~:@T", "~1,2:T", "~:@*", "~1:@*", "~:^", "~{~:^~}", "~@{~:^~}", "~:{~{~:^~}~}", "~:{~<~:^~>~}", "~(~:^~)", "~<~:^~>", "~1:^", "~:{~}~:^",
	} {
		if e := format.Check(s); e != api.ErrForm {
			t.Errorf("Check(%q) = %v", s, e)
		}
		if out, e := format.Format(s, make([]api.Form, 1001)); out != "" || e != api.ErrForm {
			t.Errorf("Format(%q) = %q, %v", s, out, e)
		}
	}
	for _, s := range []string{strings.Repeat("a", 4001), strings.Repeat("~", 4001)} {
		if e := format.Check(s); e != api.ErrSize {
			t.Errorf("Check of %d bytes: %v", len(s), e)
		}
	}
}

func TestP13_1Arguments(t *testing.T) {
	wrong := leaf(99, "")
	many := make([]api.Form, 1001)
	for i := range many {
		many[i] = whole("1")
	}
	if s, e := format.Format("~A", many[1:]); s != "1" || e != api.OK {
		t.Errorf("1000 arguments: %q, %v", s, e)
	}
	if s, e := format.Format("~A~D~C", many); s != "" || e != api.ErrSize {
		t.Errorf("1001 arguments: %q, %v", s, e)
	}
	label := api.Form{Kind: api.FormLabel, Text: "0", Kids: []api.Form{forms.List([]api.Form{whole("1")})}}
	for i, x := range []api.Form{wrong, {}, whole("01"), leaf(api.FormRef, "0"), forms.List([]api.Form{label, label}), {Kind: api.FormVector, Kids: make([]api.Form, 2000)}, text("\xff")} {
		if s, e := format.Format("~C", []api.Form{whole("1"), x}); s != "" || e != api.ErrForm {
			t.Errorf("a wrong argument %d: %q, %v", i, s, e)
		}
	}
	if s, e := format.Format("~A", []api.Form{forms.List([]api.Form{label, leaf(api.FormRef, "0")})}); s != "(#0=(1) #0#)" || e != api.OK {
		t.Errorf("labels: %q, %v", s, e)
	}
	if s, e := format.Format("~{~A ~}", []api.Form{forms.List([]api.Form{label, leaf(api.FormRef, "0")})}); s != "" || e != api.ErrForm {
		t.Errorf("a reference alone: %q, %v", s, e)
	}
	infinite := leaf(api.FormSingle, "7f800000")
	long := whole(strings.Repeat("7", 20001))
	for control, want := range map[string][2]api.Errno{ // with an infinite number, and with one that is too long
		"~A": {api.ErrForm, api.ErrForm}, "~S": {api.ErrForm, api.ErrForm}, "~D": {api.ErrForm, api.ErrType}, "~8R": {api.ErrForm, api.ErrType}, "~R": {api.ErrType, api.ErrType}, "~:R": {api.ErrType, api.ErrType}, "~@R": {api.ErrType, api.ErrType}, "~F": {api.ErrType, api.ErrType}, "~$": {api.ErrType, api.ErrType}, "~[~]": {api.ErrType, api.ErrType}, "~VA": {api.ErrType, api.ErrType}, "~C": {api.ErrType, api.ErrType},
	} {
		for i, x := range []api.Form{infinite, long} {
			if s, e := format.Format(control, []api.Form{x}); s != "" || e != want[i] {
				t.Errorf("%q of a number that is none: %q, %v, not %v", control, s, e, want[i])
			}
		}
	}
}

func TestP13_1Parameters(t *testing.T) {
	checkOutputs(t, []output{
		{"~VD", "4 7", "   7"}, {"~vD", "nil 7", "7"}, {"~v,vD", "4 #\\* 7", "***7"}, {"~#D", "1 2 3", "  1"}, {"~#,'*D|~#D", "1 2", "*1|2"}, {"~+3D", "5", "  5"}, {"~003D", "5", "  5"}, {"~4,''D", "5", "'''5"}, {"~4,',D", "5", ",,,5"}, {"~4,'~D", "5", "~~~5"}, {"~-0D", "5", "5"},
		{"~v%x", "0", "x"}, {"~v%x", "nil", "\nx"}, {"~#%x", "", "x"}, {"~v,vA|", "3 2 a", "a  |"}, {"~vR", "nil 7", "7"}, {"~vR", "2 7", "111"},
	})
}

func TestP13_1ParameterErrors(t *testing.T) {
	var l []failure
	add := func(e api.Errno, args string, controls ...string) {
		for _, s := range controls {
			l = append(l, failure{s, args, e})
		}
	}
	// They come ahead of those of the arguments, of which there are none.
	add(api.ErrRange, "", "~1001A", "~-1A", "~1,0A", "~1,1001A", "~1,-1S", "~1,1,1001A", "~1,1,-1A", "~1001D", "~-1B", "~1,,,0D", "~1,,,1001O", "~1,,,-1X", "~1R", "~37R", "~0R", "~-2R", "~2,1001R", "~2,1,,,0R", "~1001F", "~1,101F", "~1,-1F", "~1,1,101F", "~1,1,-101F", "~101$", "~-1$", "~1,101$", "~1,1,1001$")
	add(api.ErrRange, "", "~1001%", "~-1%", "~1001|", "~-1~", "~1001&", "~-1&", "~1001T", "~-1T", "~1,1001T", "~1,-1@T", "~1001*", "~-1*", "~-1:*", "~1001@*", "~1001[~]", "~-1[~]", "~1001{~}", "~-1{~}", "~1001<~>", "~-1<~>", "~1,0<~>", "~1,1001<~>", "~1,1,1001<~>")
	add(api.ErrType, "", "~'aA", "~1,'aA", "~1,1,'aA", "~1,1,1,1A", "~'xD", "~1,1D", "~1,,1D", "~1,,,'aD", "~'aR", "~2,'aR", "~2,1,1R", "~2,1,,1R", "~2,1,,,'aR", "~'aF", "~1,'aF", "~1,1,'aF", "~1,1,1,1F", "~1,1,1,,1F", "~'a$", "~1,'a$", "~1,1,'a$", "~1,1,1,1$")
	add(api.ErrType, "", "~'a%", "~'a|", "~'a~", "~'a&", "~'aT", "~1,'aT", "~'a*", "~'a[~]", "~'a{~}", "~'a<~>", "~1,'a<~>", "~1,1,'a<~>", "~1,1,1,1<~>", "~'a^", "~1,'a^", "~1,1,'a^", "~1,#A")
	l[len(l)-1].e = api.ErrRange // no argument is left
	add(api.ErrNone, "", "~VA", "~1,VA", "~V%", "~V^", "~V[~]")
	add(api.ErrType, "\"a\"", "~VA", "~V%", "~1,1,1,VA")
	add(api.ErrType, "#\\é", "~1,1,1,VA", "~,VD")
	add(api.ErrType, "1.0", "~VA")
	add(api.ErrType, "(1)", "~VD")
	add(api.ErrType, "t", "~V%")
	add(api.ErrType, "#\\a", "~V%", "~V^")
	add(api.ErrType, "5", "~,VD", "~1,1,1,V<~>")
	add(api.ErrRange, "1000000001", "~V^", "~VA", "~1,1,1,VA")
	add(api.ErrRange, "-1000000001", "~V^")
	add(api.ErrRange, "-1", "~VA", "~V%")
	add(api.ErrRange, "1001 2000", "~V,VA", "~V,'aA") // the first one ahead of the second one
	add(api.ErrType, "#\\a 2000", "~V,VA")
	add(api.ErrType, "#\\a", "~V,VA")
	checkFailures(t, l)
	for control, args := range map[string]string{"~V^": "1000000000", "~V,V^x": "-1000000000 1000000000"} {
		if _, e := format.Format(control, parsed(t, args)); e != api.OK {
			t.Errorf("%q of %s: %v", control, args, e)
		}
	}
}

func TestP13_1Data(t *testing.T) {
	checkOutputs(t, []output{
		{"~A ~S", "\"a\" \"a\"", "a \"a\""}, {"~a ~s", "#\\a #\\a", "a #\\a"}, {"~S", "common-lisp-user::foo", "foo"}, {"~A", "(1 \"a\" (b . #\\c))", "(1 a (b . c))"}, {"~S", "(quote x)", "'x"}, {"~A ~:A ~:S", "nil nil nil", "nil () ()"}, {"~:A", "(nil)", "(nil)"}, {"~S", ":a", ":a"},
		{"~5A|", "ab", "ab   |"}, {"~5@A|", "ab", "   ab|"}, {"~1A|", "abc", "abc|"}, {"~5,3A|", "abc", "abc   |"}, {"~5,3A|", "ab", "ab   |"}, {"~,,2A|", "ab", "ab  |"}, {"~6,3,2A|", "ab", "ab     |"}, {"~7,3,2@A|", "ab", "     ab|"}, {"~8,3,2@A|", "ab", "        ab|"}, {"~5,1,0,'*A", "ab", "ab***"}, {"~5,,,'*@S", "\"a\"", "**\"a\""}, {"~5:@A|", "nil", "   ()|"}, {"~0,1000A", "a", "a"}, {"~4A|", "\"é\"", "é  |"},
		{"~C~:C~@C~:@C", "#\\a #\\a #\\a #\\a", "aa#\\a#\\a"}, {"~C~C", "#\\Space #\\é", " é"}, {"~:C ~:C ~:C ~:C", "#\\Space #\\Newline #\\Tab #\\Page", "Space Newline Tab Page"}, {"~:C ~:C ~:C ~:C", "#\\Rubout #\\Backspace #\\Return #\\Null", "Rubout Backspace Return Null"}, {"~:C~:C", "#\\U0001 #\\U009F", "\x01\u009f"}, {"~@C~@C", "#\\U0001 #\\Space", "#\\U0001#\\Space"},
		{"~D item~:P", "1", "1 item"}, {"~D item~:P", "3", "3 items"}, {"~D famil~:@P", "1", "1 family"}, {"~D famil~:@P", "2", "2 families"}, {"~P~P~P~@P~@P", "1 0 1.0 1 nil", "ssyies"}, {"~P", "\"1\"", "s"},
	})
	checkFailures(t, []failure{
		{"~A", "", api.ErrNone}, {"~S~S", "1", api.ErrNone}, {"~C", "", api.ErrNone}, {"~C", "\"a\"", api.ErrType}, {"~C", "97", api.ErrType}, {"~P", "", api.ErrNone}, {"~:P", "1", api.ErrNone}, {"~A~:P~:P~P", "1", api.ErrNone},
	})
}

func TestP13_1Integers(t *testing.T) {
	checkOutputs(t, []output{
		{"~D ~B ~O ~X", "255 5 64 255", "255 101 100 FF"}, {"~D ~B ~X", "-255 -5 -255", "-255 -101 -FF"}, {"~@D ~@D ~@D", "5 0 -5", "+5 +0 -5"}, {"~:D ~:D ~:D ~:D", "123 1234 -123456 -1234567", "123 1,234 -123,456 -1,234,567"}, {"~:@D", "1234", "+1,234"}, {"~,,'.,4:D", "1234567", "123.4567"}, {"~,,' ,2:B", "37", "10 01 01"}, {"~,,,1:D", "123", "1,2,3"}, {"~,,,1000:D", "1234", "1234"}, {"~,,'.,4D", "1234567", "1234567"},
		{"~6D|~6@D|~6:D", "42 42 4200", "    42|   +42| 4,200"}, {"~2D", "1234", "1234"}, {"~4B|~4O|~4X", "2 9 255", "  10|  11|  FF"}, {"~D|~B|~R", "\"\" \"\" 1", "||one"}, {"~8,'0D", "-42", "00000-42"}, {"~8,'*:@D", "4200", "**+4,200"}, {"~D", "12345678901234567890123", "12345678901234567890123"},
		{"~5D|~5,'*D|~5:D|~5@D", "abc 1.5 nil \"x\"", "  abc|**1.5|  nil|    x"}, {"~5D", "#\\a", "    a"}, {"~2D", "(1 2)", "(1 2)"}, {"~8B", "1/2", "     1/2"}, {"~X", "#C(1 2)", "#C(1 2)"}, {"~4O|", "\"ab\"", "  ab|"},
		{"~2R ~36R ~16R", "5 35 255", "101 Z FF"}, {"~8,4R", "9", "  11"}, {"~10,8,'0,'.,2:@R", "-1234", "00-12.34"}, {"~3,,,,2:R", "80", "22,22"}, {"~,5R|~,R|~,,R", "12 12 12", "   12|12|12"}, {"~10@R", "5", "+5"}, {"~10:R", "1000", "1,000"}, {"~2,6R", "abc", "   abc"},
		{"~R ~:R ~@R ~:@R", "4 4 4 4", "four fourth IV IIII"}, {"~R", "0", "zero"}, {"~:R", "-21", "minus twenty-first"},
	})
	checkFailures(t, []failure{
		{"~D", "", api.ErrNone}, {"~R", "", api.ErrNone}, {"~R", "1.0", api.ErrType}, {"~:R", "a", api.ErrType}, {"~@R", "\"I\"", api.ErrType}, {"~R", "1000000000000000000000000", api.ErrRange}, {"~@R", "0", api.ErrRange}, {"~@R", "4000", api.ErrRange}, {"~:@R", "5000", api.ErrRange}, {"~10R", "", api.ErrNone},
	})
}

func TestP13_1Floats(t *testing.T) {
	checkOutputs(t, []output{
		{"~6,2F|~3,2F|~F|~@F|~F", "22/7 1/2 1/2 3 -3", "  3.14|.50|0.5|+3.0|-3.0"}, {"~2,1,,'*F", "100", "**"}, {"~2,1F", "100", "100.0"}, {"~F ~F ~F", "0 0.0 -0.0", "0.0 0.0 0.0"}, {"~F ~F", "1/3 1d0", "0.33333334 1.0"}, {"~F", "0.1d0", "0.1"}, {"~F ~F", "1e10 123456789", "10000000000.0 123456790.0"}, {"~F ~F", "1e-10 1.5e-3", "0.0000000001 0.0015"}, {"~F", "-12.75", "-12.75"}, {"~F", "100", "100.0"},
		{"~,0F ~,1F ~,3F", "5/2 -1/4 2", "2. -0.2 2.000"}, {"~,2F ~,2F", "-1/1000 0.125", "0.00 0.12"}, {"~,,2F ~,,-2F ~,1,2F ~,3,-3F", "1.5 1.5 1/3 5", "150.0 0.015 33.3 0.005"}, {"~,,100F", "0", "0.0"}, {"~,,-100F", "1", "0.0"}, {"~,,-100F", "-1", "0.0"}, {"~,100,-100F", "1", "0." + strings.Repeat("0", 99) + "1"}, {"~,,-100F", "1d0", "0." + strings.Repeat("0", 99) + "1"},
		{"~4,2F|~3,2F|~2,2F", "1/2 1/2 1/2", "0.50|.50|.50"}, {"~5,2F|~4,2F|~3,2F", "-1/2 -1/2 -1/2", "-0.50|-.50|-.50"}, {"~4,2@F|~5,2@F", "1/2 1/2", "+.50|+0.50"}, {"~1,0F|~2,0F", "1/4 1/4", "0.|0."}, {"~1,0,,'xF", "1/4", "x"}, {"~2,2,,'xF|~3,2,,'xF", "1/2 1/2", "xx|.50"}, {"~0,2,,'xF", "1/2", "0.50"}, {"~3F|~2F|~1F", "0.5 0.5 0.5", "0.5|.5|.5"}, {"~@F ~,1@F", "-5 -5", "-5.0 -5.0"}, {"~3,1F", "10", "10.0"}, {"~3F", "0", "0.0"}, {"~2F", "0", ".0"},
		{"~8,2,,,'*F|~8F", "5 2.5", "****5.00|     2.5"}, {"~6,1,,'x,'.@F", "2", "..+2.0"}, {"~v,vF", "6 1 2", "   2.0"}, {"~,vF", "nil 1/4", "0.25"}, {"~F", "10000000000000000000000000000000000000d0", "10000000000000000000000000000000000000.0"}, {"~,1F", "1000000000000000000000000000000000000000000000000", "1000000000000000000000000000000000000000000000000.0"},
		{"~$ ~$ ~$", "5 469/200 -1/8", "5.00 2.34 -0.12"}, {"~0$ ~1$ ~4$", "5 1/4 1/3", "5. 0.2 0.3333"}, {"~,3$ ~,3$", "5 -5", "005.00 -005.00"}, {"~,0$", "1/2", "0.50"}, {"~1,3,8$", "1/2", "   000.5"}, {"~@$ ~@$ ~@$", "5 -5 0", "+5.00 -5.00 +0.00"}, {"~,,8$|~,,8:$", "-5 -5", "   -5.00|-   5.00"}, {"~,,8@$|~,,8:@$", "5 5", "   +5.00|+   5.00"}, {"~2,4,10,'*:$", "-5", "-**0005.00"}, {"~2,4,10,'*$", "-5", "**-0005.00"}, {"~,,2$", "123", "123.00"}, {"~:$", "5", "5.00"}, {"~,,8:$", "5", "    5.00"}, {"~$", "-1/1000", "0.00"},
	})
	checkFailures(t, []failure{
		{"~F", "", api.ErrNone}, {"~F", "a", api.ErrType}, {"~F", "#C(1 2)", api.ErrType}, {"~,2F", "\"1\"", api.ErrType}, {"~F", "1" + strings.Repeat("0", 39), api.ErrRange}, {"~,,100F", "1.0", api.ErrRange}, {"~F", "-1" + strings.Repeat("0", 39), api.ErrRange}, {"~$", "", api.ErrNone}, {"~$", "nil", api.ErrType}, {"~$", "#C(1.0 2.0)", api.ErrType},
	})
}

func TestP13_1Columns(t *testing.T) {
	checkOutputs(t, []output{
		{"a~%b~2%c~0%d", "", "a\nb\n\ncd"}, {"~|~2|~0|", "", "\f\f\f"}, {"~~~3~~0~", "", "~~~~"}, {"~&a~&b~&", "", "a\nb\n"}, {"a~2&b~0&c~%~2&d~%~&e", "", "a\n\nbc\n\nd\ne"}, {"~3&", "", "\n\n"}, {"~1000%", "", strings.Repeat("\n", 1000)},
		{"a~\n   b~:\n c~@\n d~:@\n e", "", "ab c\nd\n e"}, {"a~\n\t \n b", "", "a\n b"}, {"~\n", "", ""}, {"a~\n  ~A", "1", "a1"},
		{"ab~6Tc", "", "ab    c"}, {"abc~1,4Td", "", "abc  d"}, {"ab~2Tc", "", "ab c"}, {"ab~2,0Tc", "", "abc"}, {"abc~2,0Tc", "", "abcc"}, {"abc~2,1Td", "", "abc d"}, {"abcde~1,3Tf", "", "abcde  f"}, {"abcd~1,3Tf", "", "abcd   f"}, {"~Ta", "", " a"}, {"a~Tb", "", "a b"}, {"~0Ta", "", " a"}, {"~0,0Ta", "", "a"}, {"~%ab~4Tc", "", "\nab  c"}, {"~,4Ta", "", " a"}, {"ab~,4Tc", "", "ab   c"},
		{"ab~2,4@Tc", "", "ab  c"}, {"abc~2,4@Td", "", "abc     d"}, {"abc~0,4@Td", "", "abc d"}, {"abcd~0,4@Te", "", "abcde"}, {"ab~3,0@Tc", "", "ab   c"}, {"ab~@Tc", "", "ab c"}, {"~2,1@Ta", "", "  a"},
		{"~A~5Tb", "\"é\"", "é   b"}, {"~A~5Tb", "\"a\nbc\"", "a\nbc   b"}, {"a~(B~5TC~)", "", "ab   c"},
		{"~*~A", "1 2", "2"}, {"~A~:*~A", "4", "44"}, {"~2@*~A", "1 2 3", "3"}, {"~A~@*~A", "1 2", "11"}, {"~A~A~2:*~A", "1 2", "121"}, {"~0*~A", "1", "1"},
	})
}
