package format_test

import (
	"math/rand/v2"
	"slices"
	"strings"
	"testing"

	"commonform/api"
	"commonform/format"
	"commonform/forms"
	"commonform/printer"
)

// piece is part of a control string, and its arguments.
type piece struct {
	control string
	args    []api.Form
}

// anyPiece returns one without ~^ that uses all its arguments.
func anyPiece(t *testing.T, r *rand.Rand) piece {
	x := pick(r, [2]string{"plain ", ""}, [2]string{"~A", "(1 \"x\")"}, [2]string{"~S", "\"x\""}, [2]string{"~5D", "12"}, [2]string{"~R", "12"}, [2]string{"~%", ""}, [2]string{"~&", ""}, [2]string{"~7T", ""}, [2]string{"~3,4T", ""}, [2]string{"~1,5@T", ""}, [2]string{"~~", ""}, [2]string{"~\n  ", ""}, [2]string{"~@[x~A~]", "nil"}, [2]string{"~:[a~;b~]", "t"}, [2]string{"~[a~;b~:;c~]", "1"}, [2]string{"~{~A-~}", "(1 2 3)"}, [2]string{"~:{~A~A;~}", "((1 2) (3 4))"}, [2]string{"~?", "\"~A~%\" (1)"}, [2]string{"~(X~A~)", "ABC"}, [2]string{"~:@(~9Tabc~)", ""}, [2]string{"~9<a~;~4Tb~>", ""}, [2]string{"~F", "1.5"}, [2]string{"~$", "7"}, [2]string{"~A~:*~C", "#\\a"}, [2]string{"~D item~:P", "2"}, [2]string{"~*", "1"})
	return piece{x[0], parsed(t, x[1])}
}

func TestP13_3Texts(t *testing.T) {
	r := source(5)
	for range 5000 {
		s := ""
		for range r.IntN(10) {
			s += pick(r, "a", "B", " ", "\n", "é", "\xff", ":", "@", "{", ";", "^", ",")
		}
		if got, e := format.Format(s, parsed(t, "1 2")[:r.IntN(3)]); got != s || e != api.OK {
			t.Fatalf("Format(%q) = %q, %v", s, got, e)
		}
	}
}

// column returns how many bytes stand behind the last line feed.
func column(s string) int { return len(s) - 1 - strings.LastIndex(s, "\n") }

func TestP13_3Joined(t *testing.T) {
	r := source(6)
	for range 10000 {
		var x, y piece
		for _, p := range []*piece{&x, &y} {
			for range r.IntN(5) {
				next := anyPiece(t, r)
				p.control, p.args = p.control+next.control, slices.Concat(p.args, next.args)
			}
		}
		if strings.HasSuffix(x.control, "~\n  ") && strings.HasPrefix(y.control, " ") {
			continue
		}
		first, e1 := format.Format(x.control, x.args)
		ahead := strings.Repeat("x", column(first)) // the second one begins in this column
		second, e2 := format.Format(ahead+y.control, y.args)
		both, e3 := format.Format(x.control+y.control, slices.Concat(x.args, y.args))
		if e1 != api.OK || e2 != api.OK || e3 != api.OK || both != first+strings.TrimPrefix(second, ahead) {
			t.Fatalf("%q is %q, %v; %q is %q, %v; both are %q, %v", x.control, first, e1, y.control, second, e2, both, e3)
		}
	}
}

func TestP13_5Lists(t *testing.T) {
	r := source(7)
	for range 3000 {
		var l []api.Form
		want := ""
		for range r.IntN(6) {
			x := pick(r, parsed(t, "1 a \"b\" #\\c (1 . 2) #(1 2) nil 1.5 -7/2 #2A((1)) #*01 :k")...)
			l = append(l, x)
			s, _ := printer.Text(x, false)
			want += s
		}
		for control, args := range map[string][]api.Form{"~{~A~}": {forms.List(l)}, "~@{~A~}": l} {
			if got, e := format.Format(control, args); got != want || e != api.OK {
				t.Fatalf("%s of %v = %q, %v, not %q", control, l, got, e, want)
			}
		}
	}
}

// Without changes, and without memory that is shared, whatever is put out.
func TestP13_1Memory(t *testing.T) {
	x := parsed(t, "(1 (2)) \"~A\" (3)")
	before := forms.List(x)
	for range 2 {
		if s, e := format.Format("~{~A ~}~?", x); s != "1 (2) 3" || e != api.OK {
			t.Errorf("%q, %v", s, e)
		}
	}
	if !forms.Equal(before, forms.List(x)) {
		t.Errorf("%v became %v", before, x)
	}
}

// P1: no function panics, and with an error there is no result.
func TestP13_1AnyArguments(t *testing.T) {
	r := source(8)
	bits := strings.Split("~ ~ ~ ~ A S D B O X R C F $ P % | & T * ? ( ) [ ] { } < > ; ^ : @ , 0 1 2 7 'x V # - x \n", " ")
	whole := []string{"~A", "~{", "~:{", "~@{", "~}", "~(", "~)", "~[", "~;", "~:;", "~]", "~<", "~>", "~^", "~:^", "~?", "~@?", "~:*", "~*", "~@[", "~:[", "~V,VA", "~#[", "~2,VF", "~:P", "~T", "~&"}
	objects := parsed(t, "1 -7 100000000000000000000000000 nil a \"~A\" \"~@{~A~^~}\" #\\x (1 2) (nil (1) \"~\") ((\"~?\" (1))) 1.5 #C(1 2) 1/3 (1 . 2) #(1)")
	objects = append(objects, leaf(api.FormSingle, "7f800000"))
	ended := map[api.Errno]int{}
	for range 60000 {
		control := ""
		for range r.IntN(12) {
			control += pick(r, append(slices.Clone(bits), slices.Concat(whole, whole)...)...)
		}
		var args []api.Form
		for range r.IntN(5) {
			args = append(args, pick(r, objects...))
		}
		e := format.Check(control)
		s, f := format.Format(control, args)
		if f != api.OK && s != "" || e != api.OK && f != e {
			t.Fatalf("%q: %v; Format = %q, %v", control, e, s, f)
		}
		ended[f]++
	}
	codes := []api.Errno{api.OK, api.ErrForm, api.ErrRange, api.ErrNone, api.ErrType, api.ErrFull}
	for e, n := range ended {
		if !slices.Contains(codes, e) {
			t.Errorf("%d times the error %v", n, e)
		}
	}
	if len(ended) != len(codes) {
		t.Errorf("only the ends %v", ended)
	}
}
