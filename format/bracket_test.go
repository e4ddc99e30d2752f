package format_test

import (
	"slices"
	"strings"
	"testing"

	"commonform/api"
	"commonform/format"
	"commonform/forms"
)

func TestP13_1Goto(t *testing.T) {
	checkOutputs(t, []output{
		{"~*~A", "1 2", "2"}, {"~A~:*~A", "4", "44"}, {"~2@*~A", "1 2 3", "3"}, {"~A~@*~A", "1 2", "11"}, {"~A~A~2:*~A", "1 2", "121"}, {"~0*~A", "1", "1"}, {"~0:*~A", "1", "1"}, {"~2*", "1 2", ""}, {"~@*", "", ""}, {"~3@*~0@*~A", "1 2 3", "1"}, {"~v*~A", "1 2 3", "3"}, {"~A~v@*~A", "1 2 3", "13"},
		{"~{~A~@*~A~^~2*~}", "(1 2 3)", "11"}, {"~A~@{~A~0@*~A~2*~}", "1 2 3 4", "122"},
	})
	checkFailures(t, []failure{
		{"~*", "", api.ErrNone}, {"~3*", "1 2", api.ErrNone}, {"~:*", "1", api.ErrNone}, {"~A~2:*", "1", api.ErrNone}, {"~3@*", "1 2", api.ErrNone}, {"~2*~A", "1 2", api.ErrNone}, {"~1000:*", "1 2", api.ErrNone}, {"~A~@{~:*~}", "1 2", api.ErrNone}, {"~A~{~:*~}", "1 (2)", api.ErrNone},
	})
}

func TestP13_1Recur(t *testing.T) {
	checkOutputs(t, []output{
		{"~? ~A", "\"<~A>\" (1) 2", "<1> 2"}, {"~@? ~A", "\"<~A>\" 1 2", "<1> 2"}, {"~?|~A", "\"~A~^ ~A\" (1) 2", "1|2"}, {"~@?|", "\"~A~^ ~A\" 1", "1|"}, {"~@?|~A", "\"~A~^ ~A\" 1 2 3", "1 2|3"}, {"~?", "\"\" nil", ""}, {"~?", "\"x\" (1 2)", "x"}, {"ab~?c", "\"~5T\" ()", "ab   c"}, {"~@?~A", "\"~A~:*\" 7", "77"}, {"~A~@?", "1 \"~2:*~A~*\"", "11"}, {"~{~?~}", "(\"~A\" (1) \"~A~A\" (2 3))", "123"}, {"~?~A", "\"~?\" (\"~A~^x\" (1)) 2", "12"}, {"~:?", "\"~A\" (1)", "1"}, {"~:@?", "\"~A\" 1", "1"},
	})
	checkFailures(t, []failure{
		{"~?", "", api.ErrNone}, {"~?", "1", api.ErrType}, {"~?", "1 1", api.ErrType}, {"~?", "\"~A\"", api.ErrNone}, {"~?", "\"~A\" 1", api.ErrType}, {"~?", "\"~A\" (1 . 2)", api.ErrType}, {"~?", "\"~Q\" 1", api.ErrType}, {"~?", "\"~Q\" (1)", api.ErrForm}, {"~@?", "\"~Q\"", api.ErrForm}, {"~?", "\"~A\" nil", api.ErrNone}, {"~@?", "\"~A\"", api.ErrNone}, {"~@?", "1", api.ErrType}, {"~:{~?~}", "((\"~:^\" nil))", api.ErrForm},
	})
	checkFormat(t, "~@?", []api.Form{text(strings.Repeat("a", 4000))}, strings.Repeat("a", 4000), api.OK)
	checkFormat(t, "~@?", []api.Form{text(strings.Repeat("a", 4001))}, "", api.ErrForm)
}

// A control string of ~? stands in at most 19 others.
func TestP13_1RecurDepth(t *testing.T) {
	args := func(n int, last string) string { return strings.Repeat("\"~@?\" ", n) + last }
	checkOutputs(t, []output{{"~@?", args(19, "\"x\""), "x"}, {"~@?~@?", args(19, "\"x\" ") + args(19, "\"y\""), "xy"}, {"~{~@?~}", "(" + args(19, "\"x\"") + ")", "x"}, {strings.Repeat("~@?", 30), strings.Repeat("\"x\" ", 30), strings.Repeat("x", 30)}})
	checkFailures(t, []failure{{"~@?", args(20, "\"x\""), api.ErrFull}, {"~@?", args(20, "\"~Q\""), api.ErrFull}, {"~@?", args(20, "1"), api.ErrType}, {"~@?", "\"~:*~@?\"", api.ErrFull}, {"~@?", args(19, "\"~@{~@?~}\" \"x\""), api.ErrFull}, {"~@?", args(20, ""), api.ErrNone}})
}

func TestP13_1Convert(t *testing.T) {
	checkOutputs(t, []output{
		{"~(ABC~)", "", "abc"}, {"~:(hello wORLD~)", "", "Hello World"}, {"~@(hello wORLD~)", "", "Hello world"}, {"~:@(abc~)", "", "ABC"}, {"~(A~:@(b~)C~)", "", "abc"}, {"~:@(a~(B~)c~)", "", "ABC"}, {"~(~A~) ~A", "\"ABC\" \"DEF\"", "abc DEF"}, {"~(~)", "", ""}, {"~(A~^B~)C", "", "a"}, {"~(A~^B~)C", "1", "abC"}, {"~{~(A~A~^B~)C~}D", "(1 2)", "a1bCa2D"}, {"~(~[A~^B~]~)C", "0", "a"}, {"~:(~R~)", "21", "Twenty-One"}, {"~@(~R item~:P~)", "2", "Two items"},
	})
	checkFailures(t, []failure{{"~(~A~)", "", api.ErrNone}})
}

func TestP13_1Choose(t *testing.T) {
	checkOutputs(t, []output{
		{"~[zero~;one~:;many~]", "7", "many"}, {"~[zero~;one~:;many~]", "1", "one"}, {"~[zero~;one~:;many~]", "-1", "many"}, {"~[zero~;one~:;many~]", "2", "many"}, {"~[zero~;one~:;many~]", "100000000000000000000000", "many"}, {"~[zero~;one~]", "7", ""}, {"~[zero~;one~]", "-100000000000000000000000", ""}, {"~[zero~;one~]", "1", "one"}, {"~[zero~]", "0", "zero"}, {"~[~]", "0", ""}, {"~[~:;x~]", "5", "x"},
		{"~#[none~;one~;two~]", "5 6", "two"}, {"~1[a~;~A~]", "5", "5"}, {"~v[a~;~A~]", "1 5", "5"}, {"~v[a~;~A~]", "nil 1 5", "5"}, {"~1000[~:;x~]", "", "x"}, {"~0[~]", "", ""}, {"~[a~;~[b~;c~]~]", "1 1", "c"}, {"~[a~;~A~]~A", "1 2 3", "23"},
		{"~:[no~;yes~]", "nil", "no"}, {"~:[no~;yes~]", "1", "yes"}, {"~:[no~;yes~]", "()", "no"}, {"~:[no ~A~;yes ~A~]", "nil 2", "no 2"}, {"~@[<~A>~]~A", "nil 2", "2"}, {"~@[<~A>~]", "1", "<1>"}, {"~@[<~A>~]~A", "1 2", "<1>2"}, {"~@[x~]~A", "1", "x1"},
	})
	checkFailures(t, []failure{
		{"~[~]", "", api.ErrNone}, {"~[~]", "1.0", api.ErrType}, {"~[~]", "nil", api.ErrType}, {"~:[~;~]", "", api.ErrNone}, {"~@[~]", "", api.ErrNone}, {"~v[~]", "1001", api.ErrRange}, {"~v[~]", "-1", api.ErrRange},
	})
}

func TestP13_1Iterate(t *testing.T) {
	checkOutputs(t, []output{
		{"~{~A~^, ~}", "(1 2 3)", "1, 2, 3"}, {"~{~A~}", "nil", ""}, {"~{~A~A;~}", "(1 2 3 4)", "12;34;"}, {"~1{~A~}", "(1 2)", "1"}, {"~0{~A~}", "(1 2)", ""}, {"~5{~A~}", "(1 2)", "12"}, {"~v{~A~}", "1 (2 3)", "2"}, {"~v{~A~}", "nil (2 3)", "23"}, {"~#{~A~}", "(2 3)", "2"}, {"~{none~:}", "nil", "none"}, {"~0{none~:}", "nil", ""}, {"~{~A~:}", "(1 2)", "12"}, {"~1{x~:}", "nil", "x"}, {"~{~{~A~}~}", "((1 2) (3))", "123"}, {"~{~A~}~A", "(1 2) 3", "123"},
		{"~{~}", "\"~D;\" (1 2)", "1;2;"}, {"~{~}", "\"x\" nil", ""}, {"~{~:}", "\"x\" nil", "x"}, {"~1{~}", "\"~A\" (1 2)", "1"}, {"~:{~}", "\"~A~A;\" ((1 2) (3 4))", "12;34;"}, {"~@{~}", "\"~A;\" 1 2", "1;2;"}, {"~v{~}|~A", "1 \"~A\" (1 2) 3", "1|3"}, {"~{~}", "\"\" nil", ""},
		{"~:{~A-~A ~}", "((1 2) (3 4))", "1-2 3-4 "}, {"~:{~A~^-~A ~}", "((1) (3 4 5))", "13-4 "}, {"~:{x~}", "(() (1))", "xx"}, {"~:{x~}", "nil", ""}, {"~:{x~:}", "nil", "x"}, {"~1:{~A~}", "((1) (2))", "1"}, {"~1:{~A~}", "((1) 2)", "1"}, {"~:{~A~:^, ~}", "((1) (2) (3))", "1, 2, 3"}, {"~:{~A~^!~:^, ~}", "((1 0) (2) (3 0))", "1!, 23!"}, {"~:{~:{~A~:^-~}~:^+~}", "((((1) (2))) (((3))))", "1-2+3"},
		{"~@{~A~}", "1 2", "12"}, {"~@{~A~}x", "", "x"}, {"~@{x~:}", "", "x"}, {"~1@{~A~}~A", "1 2", "12"}, {"~A~@{~A~^,~}", "1 2 3", "12,3"}, {"~1@{~A~#[~;-~:;+~]~}~A", "1 2 3", "1+2"}, {"~2@{~A~}~A~:*~A", "1 2 3", "1233"}, {"~@{~A~}~:*~A", "1 2", "122"},
		{"~:@{~A-~A ~}", "(1 2) (3 4)", "1-2 3-4 "}, {"~1:@{~A~}~A", "(1) (2)", "1(2)"}, {"~:@{~A~:^, ~}", "(1) (2)", "1, 2"}, {"~:@{x~:}", "", "x"}, {"~1@:{~A~}~:*~A", "(1) 2", "1(1)"},
	})
	checkFailures(t, []failure{
		{"~{~A~}", "", api.ErrNone}, {"~{~A~}", "1", api.ErrType}, {"~{~A~}", "(1 . 2)", api.ErrType}, {"~{~A~}", "#(1)", api.ErrType}, {"~{~A~A~}", "(1)", api.ErrNone}, {"~{~A~:}", "nil", api.ErrNone}, {"~:{~A~}", "(1)", api.ErrType}, {"~:{~A~}", "((1) 2)", api.ErrType}, {"~:{~A~:}", "nil", api.ErrNone}, {"~:{~A~}", "((1 . 2))", api.ErrType}, {"~:@{~A~}", "(1) 2", api.ErrType},
		{"~{~}", "", api.ErrNone}, {"~{~}", "1 (1)", api.ErrType}, {"~{~}", "\"~A\"", api.ErrNone}, {"~{~}", "\"~A\" 1", api.ErrType}, {"~{~}", "\"~Q\" (1)", api.ErrForm}, {"~{~}", "\"~Q\" nil", api.ErrForm}, {"~:{~}", "\"~:^\" ((1))", api.ErrForm}, {"~@{~}", "1", api.ErrType},
		{"~{x~}", "(1)", api.ErrFull}, {"~@{~0*~}", "1", api.ErrFull}, {"~{~A~:*~}", "(1)", api.ErrFull},
	})
}

func TestP13_1Justify(t *testing.T) {
	checkOutputs(t, []output{
		{"~10<a~;bc~;d~>", "", "a   bc   d"}, {"~6<a~>", "", "     a"}, {"~6@<a~>", "", "a     "}, {"~6:<a~>", "", "     a"}, {"~7:@<a~>", "", "   a   "}, {"~6:@<a~>", "", "   a  "}, {"~<a~>", "", "a"}, {"~<~>", "", ""}, {"~3<~>", "", "   "}, {"~11<a~;bc~;d~>", "", "a    bc   d"}, {"~10:<a~;b~>", "", "    a    b"}, {"~10@<a~;b~>", "", "a    b    "}, {"~11:@<a~;b~>", "", "   a   b   "}, {"~9,,,'.<a~;b~>", "", "a.......b"}, {"~3,4<abcd~>", "", "   abcd"}, {"~2,3,2,'.<abcd~>", "", "....abcd"}, {"~,,2<a~;b~>", "", "a  b"}, {"~,5<abc~>", "", "  abc"}, {"~v,v<a~;b~>", "4 1", "a  b"},
		{"~8<~A~;~A~>|~A", "1 2 3", "1      2|3"}, {"~6<a~^~;b~>x", "", "x"}, {"~6<a~;b~^~;c~>", "", "     a"}, {"~6<a~;b~^~;c~>", "1", "a  b c"}, {"~9<~A~;~^b~;c~>|", "1", "        1|"}, {"~{~4<~A~;~^~A~>~}", "(1 2 3)", "1  2   3"}, {"~5<~(A~^B~)~;c~>", "", ""}, {"~5<x~;~(A~^B~)~>", "", "    x"}, {"~<a~>~^b", "", "a"}, {"~4<a~^~>~A", "1", "   a1"},
		{"ab~<~5Tc~;~4Td~>", "", "ab   c  d"}, {"ab~9<x~;~&y~>", "", "abx      \ny"}, {"~%ab~<~&x~>", "", "\nab\nx"}, {"~3<a~%b~>", "", "a\nb"}, {"x~%~4<a~;b~>~8Tc", "", "x\na  b    c"},
	})
	parts := func(n int) string { return strings.Repeat("~;", n-1) }
	checkOutputs(t, []output{{"~<" + parts(100) + "~>", "", ""}})
	checkFailures(t, []failure{{"~<" + parts(101) + "~>", "", api.ErrFull}, {"~<~A~>", "", api.ErrNone}, {"~<a~;~A~;~>", "", api.ErrNone}})
	checkFormat(t, "~<~A~>", []api.Form{text(strings.Repeat("a", 4000))}, strings.Repeat("a", 4000), api.OK)
	checkFormat(t, "~<~A~>", []api.Form{text(strings.Repeat("a", 4001))}, "", api.ErrFull)
}

func TestP13_1Escape(t *testing.T) {
	checkOutputs(t, []output{
		{"a~^b", "", "a"}, {"a~^b", "1", "ab"}, {"~A~^~A", "1", "1"}, {"~0^x", "", ""}, {"~1^x", "", "x"}, {"~,^x", "", ""}, {"~1,1^x", "", ""}, {"~1,2^x", "", "x"}, {"~1,^x", "", "x"}, {"~1,2,3^x", "", ""}, {"~2,2,2^x", "", ""}, {"~3,2,1^x", "", "x"}, {"~1,3,2^x", "", "x"}, {"~2,1,3^x", "", "x"}, {"~,,^x", "", ""}, {"~1,1,^x", "", "x"}, {"~-5,-4,^x", "", ""}, {"~v^x", "nil", ""}, {"~v^x~A", "1 2", "x2"}, {"~#^x", "", ""}, {"~#^x", "1", "x"}, {"~2,#^x", "1 2", ""}, {"~123456789^x", "", "x"},
		{"~{~A~1,1^x~}y", "(1 2)", "1y"}, {"~:{~A~1,1^x~}y", "((1) (2))", "12y"}, {"~:{~A~1,1:^x~}y", "((1) (2))", "1y"}, {"~:{~A~1,2:^x~}y", "((1) (2))", "1x2xy"}, {"~:@{~A~1,1:^x~}~A", "(1) (2)", "1(2)"}, {"~:{~[~:^~;x~]~}y", "((1) (0) (1))", "xxy"}, {"~:{~[~:^~;x~]-~}y", "((1) (0))", "x-y"}, {"~:{~(A~:^B~)C~}D", "((1) (2))", "abCaD"}, {"~:{~A~{~A~^,~}~:^;~}", "((1 (2 3)) (4 (5)))", "12,3;45"}, {"~[a~^b~]c", "0", "a"}, {"~:[a~^b~;~]c", "nil", "a"}, {"~@[~A~^b~]c", "1", "1"}, {"~{~[a~^b~]c~}d", "(0)", "ad"}, {"~@^x", "", ""},
	})
}

// Just 10000 directives, times of iterations and parts of justifications are performed; texts and what divides or closes a bracket do not count.
func TestP13_1Full(t *testing.T) {
	var lists []api.Form // with 4 directives, and 2 for each of 4996 elements
	for _, n := range []int{1998, 1000, 1000, 998} {
		lists = append(lists, forms.List(slices.Repeat([]api.Form{whole("1")}, n)))
	}
	control, out := strings.Repeat("~{~A~}", 4), strings.Repeat("1", 4996)
	for _, x := range []output{
		{"~%~%~%~%", "", "\n\n\n\n"}, {"~(~)~(~%~)~%", "", "\n\n"}, {"~<~;~;~>x", "", "x"}, {"~<~%~;~>x", "", "\nx"}, {"~1@{x~:}~%~%", "", "x\n\n"}, {"~0@{x~:}~%~%~%", "", "\n\n\n"}, {"~0[~%~;~]~%~%", "", "\n\n\n"}, {"~[~%~;~:;~]~%~%~%", "2", "\n\n\n"}, {"~@?~%", "\"~%~0%\"", "\n\n"}, {"~*~:*~*~A", "1 2", "2"}, {"~#^x~%~%~%", "1", "x\n\n\n"}, {"~\n  ~\n ~~~&", "", "~\n"},
	} {
		args := slices.Concat(lists, parsed(t, x.args))
		checkFormat(t, control+x.control, args, out+x.want, api.OK)
		checkFormat(t, control+x.control+"text", args, out+x.want+"text", api.OK)
		checkFormat(t, control+x.control+"~0%", args, "", api.ErrFull)
	}
	checkFormat(t, control+"~%~%~%~%~A", lists, "", api.ErrFull)
	checkFormat(t, control+"~%~%~%~A", lists, "", api.ErrNone)
	checkFormat(t, control+"~%~%~%~^~%", lists, out+"\n\n\n", api.OK)
	checkFailures(t, []failure{{"~{x~}", "(1)", api.ErrFull}, {"~{~A~:*~}", "(1)", api.ErrFull}})
}

func TestP13_1Output(t *testing.T) {
	most := strings.Repeat("~1000%", 20)
	lines := strings.Repeat("\n", 20000)
	checkOutputs(t, []output{{most, "", lines}, {"~(" + most + "~)", "", lines}, {most + "~0%~A", "\"\"", lines}, {strings.Repeat("~1000%", 19) + "~1000A", "a", lines[:19000] + "a" + strings.Repeat(" ", 999)}})
	checkFailures(t, []failure{{most + "x", "", api.ErrFull}, {most + "~%~A", "", api.ErrFull}, {"x" + most + "~A", "", api.ErrFull}, {most + "~A~A", "\"\"", api.ErrNone}, {most + "~(x~)", "", api.ErrFull}, {most + "~<x~>", "", api.ErrFull}, {most + "~1T", "", api.ErrFull}})
	for n, e := range map[int]api.Errno{20000: api.OK, 20001: api.ErrFull} {
		s, got := format.Format("~A", []api.Form{text(strings.Repeat("a", n))})
		if got != e || (len(s) == n) != (e == api.OK) {
			t.Errorf("an argument of %d bytes: %d, %v", n, len(s), got)
		}
	}
}
