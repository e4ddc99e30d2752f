package reader

import (
	"math/rand/v2"
	"slices"
	"strconv"
	"strings"
	"testing"
	"unicode/utf8"

	"commonform/api"
	"commonform/forms"
	"commonform/token"
)

const runs = 3000

func source(seed uint64) *rand.Rand { return rand.New(rand.NewPCG(seed, 7)) }

func pick(r *rand.Rand, l ...string) string { return l[r.IntN(len(l))] }

// pieces returns the pieces of a random form; blanks may stand between any two of them. Labels are numbered by a counter.
func pieces(r *rand.Rand, depth, level int, labels *int) []string {
	within := func(first string, change int) []string {
		return append([]string{first}, pieces(r, depth-1, level+change, labels)...)
	}
	if depth <= 0 || r.IntN(3) == 0 {
		return []string{pick(r, "a", "FOO", "|x y|", "q:b", "q::c", ":k", "#:g", "12", "-1/2", "1.5", "#\\a", "#\\Space", "#\\;", "\"s ;\"", "#*01", "#3*0", "#xFF", "()", "1+", "#c(1 2)", "#\\(")}
	}
	switch r.IntN(12) {
	case 0:
		return within(pick(r, "'", "#'"), 0)
	case 1:
		return within("`", 1)
	case 2:
		if level > 0 {
			return within(pick(r, ",", ",@"), -1)
		}
		return within("#0a", 0)
	case 3:
		*labels++
		n := strconv.Itoa(*labels)
		out := append([]string{"#" + n + "=", "("}, pieces(r, depth-1, level, labels)...)
		return append(out, "#"+n+"#", ")")
	case 4:
		return slices.Concat(within("#+", 0)[:1], []string{pick(r, "small", "(not nope)", "(and)", "(or :q |q|)")}, pieces(r, depth-1, level, labels))
	case 5:
		return []string{"#2a", "(", "(", "1", "a", ")", "#(", "2", "b", ")", ")"}
	}
	out := []string{pick(r, "(", "(", "#(")}
	isVector := out[0] == "#("
	for range r.IntN(4) {
		if r.IntN(6) == 0 {
			out = append(out, "#-", "small", "(left :out)")
		}
		out = append(out, pieces(r, depth-1, level, labels)...)
	}
	if len(out) > 1 && !isVector && r.IntN(4) == 0 {
		out = append(out, ".")
		out = append(out, pieces(r, depth-1, level, labels)...)
	}
	return append(out, ")")
}

func blank(r *rand.Rand, needed bool) string {
	out := ""
	if needed || r.IntN(3) == 0 {
		out = pick(r, " ", "\n", "\t ", ";x)\n")
	}
	for r.IntN(4) == 0 {
		out += pick(r, " ", " ;(\"\n", " #|a #|b|# \\|#", "\n\n", " ;|#\n")
	}
	if out != "" {
		out += pick(r, "", " ")
	}
	return out
}

// joined returns a text of pieces with blanks between them, and where each piece begins.
func joined(r *rand.Rand, l []string) (string, []int) {
	out, at := blank(r, false), []int(nil)
	for i, s := range l {
		if i > 0 {
			last := l[i-1]
			isPrefix := slices.Contains([]string{"(", "#(", "'", "#'", "`", ",@", "#2a", "#0a", "#+", "#-"}, last) || strings.HasSuffix(last, "=") || last == "," && s[0] != '@'
			out += blank(r, !isPrefix && s != ")" && s[0] != '(')
		}
		at = append(at, len(out))
		out += s
	}
	return out, at
}

func randomPieces(r *rand.Rand) []string {
	labels := 0
	return pieces(r, 4, 0, &labels)
}

// walk comes to all symbols of a form.
func walk(f api.Form, visit func(api.Form)) {
	visit(f)
	for _, x := range f.Kids {
		walk(x, visit)
	}
}

func names(l []Reference) []Reference {
	var out []Reference
	for _, x := range l {
		x.At = 0
		out = append(out, x)
	}
	return out
}

func TestP7_2Blanks(t *testing.T) {
	r := source(1)
	for range runs {
		l := randomPieces(r)
		plain := strings.Join(l, " ")
		s, _ := joined(r, l)
		if len(s) > api.MaxSource || len(plain) > api.MaxSource {
			continue
		}
		a, at, e := One(usual(), plain)
		if e != api.OK {
			t.Fatalf("One(%q): %d, %v", plain, at, e)
		}
		b, at, e := One(usual(), s+blank(r, false))
		if e != api.OK || !forms.Equal(a.Form, b.Form) || !slices.Equal(names(a.References), names(b.References)) {
			t.Fatalf("One(%q): %s, %d, %v, not %s", s, show(b.Form), at, e, show(a.Form))
		}
		for _, behind := range []string{")", " junk\x01", "(", "\n", ";", "\"", " ,", "'"} {
			c, _, e := Read(usual(), "x((\x01 \xc3\xa9"+s+behind, len("x((\x01 \xc3\xa9"))
			if e != api.OK || !forms.Equal(c.Form, a.Form) || c.To-c.From != b.To-b.From || len(c.References) != len(b.References) {
				t.Fatalf("Read(%q) within other text: %s, %v, not %s", s, show(c.Form), e, show(a.Form))
			}
			for i, x := range c.References {
				x.At -= len("x((\x01 \xc3\xa9")
				if x != b.References[i] {
					t.Fatalf("Read(%q): the reference %v, not %v", s, x, b.References[i])
				}
			}
		}
	}
}

func moved(x Result, by int) Result {
	x.From += by
	x.To += by
	x.References = slices.Clone(x.References)
	for i := range x.References {
		x.References[i].At += by
	}
	return x
}

func TestP7_3Sequences(t *testing.T) {
	r := source(2)
	for range runs / 3 {
		texts := [2]string{}
		for i := range texts {
			for range r.IntN(4) {
				s, _ := joined(r, randomPieces(r))
				texts[i] += s + blank(r, true)
			}
		}
		s := texts[0] + "\n" + texts[1]
		if len(s) > api.MaxSource {
			continue
		}
		a, _, e := All(usual(), texts[0])
		b, _, f := All(usual(), texts[1])
		both, at, g := All(usual(), s)
		if e != api.OK || f != api.OK || g != api.OK || at != 0 || len(both) != len(a)+len(b) {
			t.Fatalf("All(%q): %d, %v, %v, %v", s, at, e, f, g)
		}
		for _, x := range b {
			a = append(a, moved(x, len(texts[0])+1))
		}
		for i, x := range both {
			if !sameResult(x, a[i]) {
				t.Fatalf("All(%q)[%d] = %v, not %v", s, i, x, a[i])
			}
			if y, _, e := Read(usual(), s, x.From); e != api.OK || !sameResult(x, y) {
				t.Fatalf("Read(%q, %d) = %v, %v, not %v", s, x.From, y, e, x)
			}
		}
		_, at, e = One(usual(), s)
		switch {
		case len(both) == 0 && (e != api.ErrNone || at != len(s)),
			len(both) == 1 && (e != api.OK || at != 0),
			len(both) > 1 && (e != api.ErrTwice || at != both[1].From):
			t.Fatalf("One(%q): %d, %v", s, at, e)
		}
	}
}

func TestP7_1All(t *testing.T) {
	for _, x := range []struct {
		in    string
		count int
		at    int
		e     api.Errno
		one   api.Errno
		oneAt int
	}{
		{"", 0, 0, api.OK, api.ErrNone, 0}, {" a ;x", 1, 0, api.OK, api.OK, 0}, {"a b", 2, 0, api.OK, api.ErrTwice, 2}, {"a )", 0, 2, ErrClose, ErrClose, 2}, {"a (b", 0, 4, api.ErrEnd, api.ErrEnd, 4}, {"a #-small b", 1, 0, api.OK, api.OK, 0},
		{"a #-small b c", 2, 0, api.OK, api.ErrTwice, 12}, {"#1=a #1=b", 2, 0, api.OK, api.ErrTwice, 5}, {"#1=a #1#", 0, 5, forms.ErrLabel, forms.ErrLabel, 5}, {"a\"b\"(c)'d", 4, 0, api.OK, api.ErrTwice, 1}, {"a #|", 0, 4, api.ErrEnd, api.ErrEnd, 4},
		{") a", 0, 0, ErrClose, ErrClose, 0},
	} {
		l, at, e := All(usual(), x.in)
		if len(l) != x.count || at != x.at || e != x.e {
			t.Errorf("All(%q): %d results, %d, %v", x.in, len(l), at, e)
		}
		r, at, e := One(usual(), x.in)
		if e != x.one || at != x.oneAt || e != api.OK && !sameResult(r, Result{}) {
			t.Errorf("One(%q): %v, %d, %v", x.in, r, at, e)
		}
	}
}

func TestP7_4Errors(t *testing.T) {
	r := source(3)
	for range runs / 10 {
		s, starts := joined(r, randomPieces(r))
		if len(s) > api.MaxSource {
			continue
		}
		for n := range len(s) {
			if !utf8.RuneStart(s[n]) {
				continue
			}
			_, at, e := All(usual(), s[:n])
			if e == api.OK || e == api.ErrEnd && at == n {
				continue
			}
			last := 0
			for _, i := range starts {
				if i < n {
					last = i
				}
			}
			if at > n || n >= last+9 && !strings.HasSuffix(s[:n], "#") { // a cut comment
				t.Fatalf("All(%q): %d, %v", s[:n], at, e)
			}
		}
	}
	const chars = "ab1.:|\\\"'()`,@#;+-=*x \n\x01é"
	l := []rune(chars)
	for range 20 * runs {
		s := ""
		for range r.IntN(12) {
			s += string(l[r.IntN(len(l))])
		}
		from := len(s)
		s += string(l[r.IntN(len(l))])
		for range r.IntN(12) {
			s += string(l[r.IntN(len(l))])
		}
		x, at, e := Read(usual(), s, from)
		if e != api.OK {
			if at < from || at > len(s) || !sameResult(x, Result{}) || e == api.ErrEnd && at != len(s) || e == api.ErrNone && at != len(s) {
				t.Fatalf("Read(%q, %d): %d, %v", s, from, at, e)
			}
			continue
		}
		checkForm(t, s, x)
	}
}

// checkForm checks what P7.5 promises.
func checkForm(t *testing.T, s string, x Result) {
	t.Helper()
	if e := forms.Check(x.Form); e != api.OK {
		t.Fatalf("Read(%q) = %s: %v", s, show(x.Form), e)
	}
	known := map[[2]string]bool{{"COMMON-LISP", "QUOTE"}: true, {"COMMON-LISP", "FUNCTION"}: true, {"READER", "BACKQUOTE"}: true, {"READER", "COMMA"}: true, {"READER", "SPLICE"}: true, {"COMMON-LISP", "NIL"}: true}
	last := -1
	for _, y := range x.References {
		known[[2]string{y.Home, y.Name}] = true
		if y.At <= last || y.At < x.From || y.At >= x.To || y.Home == "" {
			t.Fatalf("Read(%q): the reference %v", s, y)
		}
		last = y.At
	}
	walk(x.Form, func(f api.Form) {
		if f.Kind == api.FormSymbol && f.Home != "" && !known[[2]string{f.Home, f.Text}] {
			t.Fatalf("Read(%q): no reference to %v", s, f)
		}
	})
}

func TestP7_5Forms(t *testing.T) {
	r := source(4)
	for range runs {
		s, _ := joined(r, randomPieces(r))
		if len(s) > api.MaxSource {
			continue
		}
		x, _, e := Read(usual(), s, 0)
		if e != api.OK {
			t.Fatalf("Read(%q): %v", s, e)
		}
		checkForm(t, s, x)
	}
}

func TestP7_1Character(t *testing.T) {
	for name, want := range map[string]rune{
		"Null": 0, "backspace": 8, "TAB": 9, "Newline": 10, "LineFeed": 10, "pAGE": 12, "Return": 13, "space": 32, "Rubout": 127,
		"U0041": 'A', "u00e9": 'é', "U00E9": 'é', "U10ffff": 0x10ffff, "u0000": 0, "U00041": 'A', "UD7FF": 0xd7ff, "uE000": 0xe000, "u000041": 'A',
	} {
		if c, ok := Character(name); c != want || !ok {
			t.Errorf("Character(%q) = %q, %v", name, c, ok)
		}
	}
	for _, name := range []string{"", "a", "Nul", "U041", "U0000041", "U110000", "Ud800", "UDFFF", "x0041", "U00g1", "U-041", "U+0041", "bac\u212aspace", "ſpace", "space ", "U 041", "Escape"} {
		if c, ok := Character(name); c != 0 || ok {
			t.Errorf("Character(%q) = %q, %v", name, c, ok)
		}
	}
	for c := rune(0); c <= utf8.MaxRune; c += 37 {
		if !utf8.ValidRune(c) {
			continue
		}
		digits := strconv.FormatInt(int64(c), 16)
		if got, ok := Character("U" + strings.Repeat("0", max(0, 4-len(digits))) + digits); got != c || !ok {
			t.Fatalf("the character %x is %x", c, got)
		}
	}
}

func key(name string) api.Form { return forms.Symbol("KEYWORD", name) }

func list(l ...api.Form) api.Form { return forms.List(l) }

func TestP7_1Feature(t *testing.T) {
	not, and, or := key("NOT"), key("AND"), key("OR")
	yes, no := key("YES"), key("NO")
	features := []string{"YES", "ALSO", ""}
	for _, x := range []struct {
		f    api.Form
		want bool
		e    api.Errno
	}{
		{yes, true, api.OK}, {no, false, api.OK}, {key(""), true, api.OK}, {key("yes"), false, api.OK}, {not, false, api.OK},
		{list(not, yes), false, api.OK}, {list(not, no), true, api.OK}, {list(and), true, api.OK}, {list(or), false, api.OK}, {list(and, yes, key("ALSO")), true, api.OK}, {list(and, yes, no), false, api.OK}, {list(and, no, yes), false, api.OK},
		{list(or, no, yes), true, api.OK}, {list(or, yes, no), true, api.OK}, {list(or, no), false, api.OK}, {list(not, list(or, list(and, yes, no), list(not, yes))), true, api.OK},
		{forms.Symbol("P", "YES"), false, api.ErrForm}, {forms.Symbol("", "YES"), false, api.ErrForm}, {list(not), false, api.ErrForm}, {list(not, yes, yes), false, api.ErrForm}, {list(yes, yes), false, api.ErrForm}, {forms.Nil(), false, api.ErrForm},
		{list(or, yes, list(not)), false, api.ErrForm}, {list(and, no, api.Form{Kind: api.FormInt, Text: "1"}), false, api.ErrForm}, {forms.Dotted([]api.Form{or, yes}, yes), false, api.ErrForm}, {list(forms.Symbol("P", "OR"), yes), false, api.ErrForm},
		{api.Form{Kind: api.FormSymbol, Home: "KEYWORD", Text: "YES", Kids: []api.Form{yes}}, false, api.ErrForm}, {api.Form{}, false, api.ErrForm}, {api.Form{Kind: api.FormCons}, false, api.ErrForm}, {api.Form{Kind: api.FormCons, Kids: []api.Form{forms.Nil()}}, false, api.ErrForm},
		{api.Form{Kind: api.FormVector, Kids: []api.Form{or, yes, forms.Nil()}}, false, api.ErrForm}, {list(list(or), yes), false, api.ErrForm},
	} {
		if got, e := Feature(x.f, features); got != x.want || e != x.e {
			t.Errorf("Feature(%s) = %v, %v, not %v, %v", show(x.f), got, e, x.want, x.e)
		}
	}
}

// depthOf returns contents of a depth with random elements, and their dimensions.
func randomContents(r *rand.Rand, dimensions []int) api.Form {
	if len(dimensions) == 0 {
		return key(strconv.Itoa(r.IntN(9)))
	}
	var l []api.Form
	for range dimensions[0] {
		l = append(l, randomContents(r, dimensions[1:]))
	}
	if r.IntN(2) == 0 {
		return api.Form{Kind: api.FormVector, Kids: l}
	}
	return forms.List(l)
}

func TestP7_7Arrays(t *testing.T) {
	r := source(5)
	for range runs {
		rank := r.IntN(forms.MaxRank + 1)
		var dimensions []int
		product := 1
		for range rank {
			d := r.IntN(4)
			if product == 0 {
				d = 0
			}
			dimensions = append(dimensions, d)
			product *= d
		}
		contents := randomContents(r, dimensions)
		f, e := Array(rank, contents)
		if nodes, _ := forms.Size(contents); nodes > api.MaxForm || product > api.MaxForm {
			if e != api.ErrSize {
				t.Fatalf("Array(%v): %v", dimensions, e)
			}
			continue
		}
		if e != api.OK || len(f.Kids) != product {
			t.Fatalf("Array(%v) = %s, %v", dimensions, show(f), e)
		}
		if nodes, _ := forms.Size(f); nodes <= api.MaxForm {
			got, e := forms.Dimensions(f)
			if e != api.OK || !slices.Equal(got, dimensions) {
				t.Fatalf("Array(%v) has the dimensions %v, %v", dimensions, got, e)
			}
		}
		var leaves []string
		walk(contents, func(f api.Form) {
			if f.Home == "KEYWORD" {
				leaves = append(leaves, f.Text)
			}
		})
		for i, x := range f.Kids {
			if x.Text != leaves[i] {
				t.Fatalf("Array(%d, %s) = %s", rank, show(contents), show(f))
			}
		}
	}
}

func TestP7_1Array(t *testing.T) {
	text := func(s string) api.Form { return api.Form{Kind: api.FormString, Text: s} }
	bits := func(s string) api.Form { return api.Form{Kind: api.FormBits, Text: s} }
	label := api.Form{Kind: api.FormLabel, Text: "1", Kids: []api.Form{list(key("A"))}}
	ref := api.Form{Kind: api.FormRef, Text: "1"}
	for _, x := range []struct {
		rank int
		f    api.Form
		want string
		e    api.Errno
	}{
		{0, key("A"), "<>[KEYWORD/A]", api.OK}, {0, label, "<>[1=(KEYWORD/A)]", api.OK}, {0, ref, "<>[1#]", api.OK}, {1, list(label, ref), "[1=(KEYWORD/A) 1#]", api.OK}, {1, text("aé"), "[char:a char:é]", api.OK}, {1, bits("01"), "[0 1]", api.OK}, {1, forms.Nil(), "[]", api.OK}, {1, text(""), "[]", api.OK},
		{2, list(bits("01"), text("ab")), "<2 2>[0 1 char:a char:b]", api.OK}, {2, forms.Nil(), "<0 0>[]", api.OK}, {2, list(text(""), forms.Nil(), bits("")), "<3 0>[]", api.OK}, {3, list(forms.Nil(), forms.Nil()), "<2 0 0>[]", api.OK},
		{1, label, "", ErrShape}, {1, ref, "", ErrShape}, {1, key("A"), "", ErrShape}, {2, text("ab"), "", ErrShape}, {2, list(bits("1"), bits("11")), "", ErrShape}, {2, list(forms.Nil(), bits("1")), "", ErrShape}, {2, list(label), "", ErrShape}, {1, forms.Dotted([]api.Form{key("A")}, key("B")), "", ErrShape},
		{1, api.Form{Kind: api.FormArray, Text: "0 0"}, "", ErrShape}, {3, list(list(forms.Nil()), forms.Nil()), "", ErrShape}, {3, list(list(bits("1")), list(bits("1"), bits("1"))), "", ErrShape},
		{-1, forms.Nil(), "", api.ErrArg}, {8, forms.Nil(), "", api.ErrArg}, {9, text("\xff"), "", api.ErrForm}, {-1, api.Form{Kind: api.FormVector, Kids: make([]api.Form, 2000)}, "", api.ErrSize}, {1, api.Form{}, "", api.ErrForm},
		{1, text(strings.Repeat("a", 2001)), "", api.ErrSize}, {2, list(text(strings.Repeat("a", 1001)), text(strings.Repeat("a", 1001))), "", api.ErrSize}, {2, list(text(strings.Repeat("a", 2001)), text("")), "", ErrShape},
	} {
		f, e := Array(x.rank, x.f)
		if show(f) != x.want || e != x.e {
			t.Errorf("Array(%d, %.50s) = %s, %v, not %s, %v", x.rank, show(x.f), show(f), e, x.want, x.e)
		}
	}
	if f, e := Array(1, text(strings.Repeat("a", 2000))); e != api.OK || len(f.Kids) != 2000 {
		t.Errorf("Array of 2000 characters: %d, %v", len(f.Kids), e)
	}
	if f, e := Array(2, list(text(strings.Repeat("a", 1000)), text(strings.Repeat("a", 1000)))); e != api.OK || len(f.Kids) != 2000 {
		t.Errorf("Array of 2 times 1000 characters: %d, %v", len(f.Kids), e)
	}
}

func mark(name string, x api.Form) api.Form { return list(forms.Symbol(home, name), x) }

func TestP7_1Backquote(t *testing.T) {
	a := forms.Symbol("P", "A")
	comma, splice := forms.Symbol(home, "COMMA"), forms.Symbol(home, "SPLICE")
	for in, want := range map[string]string{
		"a": "(QUOTE A)", "(a)": "(APPEND (LIST (QUOTE A)) (QUOTE NIL))", "(a . b)": "(APPEND (LIST (QUOTE A)) (QUOTE B))", "()": "(QUOTE NIL)", "\"x\"": "(QUOTE \"x\")", "#2a((,a))": "(QUOTE <1 1>[(COMMA A)])",
		",a": "A", "(,a)": "(APPEND (LIST A) (QUOTE NIL))", "(,@a)": "(APPEND A (QUOTE NIL))", "(a . ,b)": "(APPEND (LIST (QUOTE A)) B)", "(a . b c)": "", "(,@a . ,b)": "(APPEND A B)", "#(a ,b)": "(APPLY (FUNCTION VECTOR) (APPEND (LIST (QUOTE A)) (LIST B) (QUOTE NIL)))", "#()": "(APPLY (FUNCTION VECTOR) (QUOTE NIL))",
		"((,a) #(,@b))":            "(APPEND (LIST (APPEND (LIST A) (QUOTE NIL))) (LIST (APPLY (FUNCTION VECTOR) (APPEND B (QUOTE NIL)))) (QUOTE NIL))",
		"(a . #(,b))":              "(APPEND (LIST (QUOTE A)) (APPLY (FUNCTION VECTOR) (APPEND (LIST B) (QUOTE NIL))))",
		"`a":                       "(APPEND (LIST (QUOTE BACKQUOTE)) (LIST (QUOTE A)) (QUOTE NIL))",
		"`,a":                      "(APPEND (LIST (QUOTE BACKQUOTE)) (LIST (APPEND (LIST (QUOTE COMMA)) (LIST (QUOTE A)) (QUOTE NIL))) (QUOTE NIL))",
		"`,,a":                     "(APPEND (LIST (QUOTE BACKQUOTE)) (LIST (APPEND (LIST (QUOTE COMMA)) (LIST A) (QUOTE NIL))) (QUOTE NIL))",
		"`,,@a":                    "(APPEND (LIST (QUOTE BACKQUOTE)) (LIST (APPEND (LIST (QUOTE COMMA)) A (QUOTE NIL))) (QUOTE NIL))",
		"`(,@a)":                   "(APPEND (LIST (QUOTE BACKQUOTE)) (LIST (APPEND (LIST (APPEND (LIST (QUOTE SPLICE)) (LIST (QUOTE A)) (QUOTE NIL))) (QUOTE NIL))) (QUOTE NIL))",
		"`(a . ,,b)":               "(APPEND (LIST (QUOTE BACKQUOTE)) (LIST (APPEND (LIST (QUOTE A)) (APPEND (LIST (QUOTE COMMA)) (LIST B) (QUOTE NIL)))) (QUOTE NIL))",
		"(x . `b)":                 "(APPEND (LIST (QUOTE X)) (LIST (QUOTE BACKQUOTE)) (LIST (QUOTE B)) (QUOTE NIL))",
		"(reader::backquote . ,a)": "(APPEND (LIST (QUOTE BACKQUOTE)) A)",
	} {
		if want == "" {
			continue
		}
		x, _, e := One(usual(), "`"+in)
		if e != api.OK {
			t.Fatalf("One(%q): %v", in, e)
		}
		f, e := Backquote(x.Form.Kids[1])
		got := strings.NewReplacer("COMMON-LISP/", "", "READER/", "").Replace(show(f))
		if got != want || e != api.OK {
			t.Errorf("Backquote(%q) = %s, %v, not %s", in, got, e, want)
		}
	}
	shared := api.Form{Kind: api.FormLabel, Text: "1", Kids: []api.Form{list(a)}}
	for _, x := range []struct {
		f api.Form
		e api.Errno
	}{
		{mark("SPLICE", a), ErrComma}, {list(comma), api.ErrForm}, {list(comma, a, a), api.ErrForm}, {list(splice), api.ErrForm}, {list(splice, a, a), api.ErrForm}, {forms.Dotted([]api.Form{comma}, a), api.ErrForm}, {forms.Dotted([]api.Form{comma, a}, a), api.ErrForm},
		{list(a, splice, a), ErrComma}, {list(a, list(splice, a, a)), api.ErrForm}, {list(list(mark("SPLICE", a)), list(comma)), api.ErrForm}, {mark("BACKQUOTE", mark("COMMA", mark("COMMA", mark("SPLICE", a)))), api.OK},
		{mark("BACKQUOTE", mark("COMMA", list(comma, a, a))), api.ErrForm}, {mark("BACKQUOTE", list(comma, a, a)), api.OK}, {list(comma, comma, a), api.ErrForm}, {mark("BACKQUOTE", list(comma, comma, a)), api.OK}, {list(a, comma), api.OK}, {list(a, comma, a, a), api.OK}, {list(a, a, comma), api.OK},
		{api.Form{}, api.ErrForm}, {shared, forms.ErrLabel}, {list(a, list(shared)), forms.ErrLabel}, {list(api.Form{Kind: api.FormRef, Text: "1"}), forms.ErrLabel},
	} {
		f, e := Backquote(x.f)
		if e != x.e || e != api.OK && show(f) != "" {
			t.Errorf("Backquote(%s) = %s, %v, not %v", show(x.f), show(f), e, x.e)
		}
	}
	wide := make([]api.Form, 500)
	for i := range wide {
		wide[i] = a
	}
	// the list of n symbols makes 7 n + 7 nodes, a comma 4 and a splice 1 of them
	exact := append(slices.Clone(wide[:284]), mark("COMMA", a), mark("SPLICE", a))
	inner := a
	for range 48 { // of the depth 2 n + 2, a vector one more
		inner = list(inner)
	}
	deep := a
	for range 98 {
		deep = list(deep)
	}
	for _, x := range []struct {
		f api.Form
		e api.Errno
	}{{forms.List(wide), api.ErrSize}, {forms.List(exact), api.OK}, {forms.List(append(exact, mark("SPLICE", a))), api.ErrSize}, {list(inner), api.OK}, {list(list(inner)), api.ErrSize}, {api.Form{Kind: api.FormVector, Kids: []api.Form{inner}}, api.ErrSize}, {deep, api.ErrSize}, {mark("COMMA", deep), api.OK}, {forms.List(make([]api.Form, 2000)), api.ErrSize}} {
		if _, e := Backquote(x.f); e != x.e {
			t.Errorf("Backquote of a large form: %v, not %v", e, x.e)
		}
	}
}

// value evaluates what Backquote makes; symbols of P are their own values but for those in bindings.
func value(f api.Form, bindings map[string]api.Form) api.Form {
	if f.Kind != api.FormCons {
		return bindings[f.Text]
	}
	args, _ := forms.Items(f)
	name := args[0].Text
	if name == "QUOTE" {
		return args[1]
	}
	var l []api.Form
	for _, x := range args[1:] {
		if name == "APPLY" && x.Kind == api.FormCons && forms.Is(x.Kids[0], "COMMON-LISP", "FUNCTION") {
			continue
		}
		l = append(l, value(x, bindings))
	}
	switch name {
	case "LIST":
		return forms.List(l)
	case "APPLY":
		items, _ := forms.Items(l[0])
		return api.Form{Kind: api.FormVector, Kids: items}
	}
	out := l[len(l)-1]
	for i := len(l) - 2; i >= 0; i-- {
		items, _ := forms.Items(l[i])
		out = forms.Dotted(items, out)
	}
	return out
}

// filled is a random template, and what it stands for.
func filled(r *rand.Rand, depth int, bindings map[string]api.Form, isPlain bool) (template, meant api.Form) {
	choice := r.IntN(6)
	if depth <= 0 {
		choice = min(choice, 2)
	}
	switch {
	case choice == 0 && !isPlain:
		name := pick(r, "A", "B", "L")
		return mark("COMMA", forms.Symbol("P", name)), bindings[name]
	case choice <= 2:
		x := forms.Symbol("P", pick(r, "A", "X", "Y"))
		return x, x
	}
	var l, m []api.Form
	for range r.IntN(4) {
		if !isPlain && r.IntN(4) == 0 {
			l = append(l, mark("SPLICE", forms.Symbol("P", "L")))
			items, _ := forms.Items(bindings["L"])
			m = append(m, items...)
			continue
		}
		x, y := filled(r, depth-1, bindings, isPlain)
		l, m = append(l, x), append(m, y)
	}
	if choice == 3 && !isPlain {
		return api.Form{Kind: api.FormVector, Kids: l}, api.Form{Kind: api.FormVector, Kids: m}
	}
	tail, end := forms.Nil(), forms.Nil()
	if len(l) > 0 && choice == 4 {
		tail, end = filled(r, 0, bindings, isPlain)
	}
	return forms.Dotted(l, tail), forms.Dotted(m, end)
}

func TestP7_6Backquote(t *testing.T) {
	r := source(6)
	bindings := map[string]api.Form{"A": key("A"), "B": list(key("B")), "L": list(key("C"), list(key("D"))), "X": key("X"), "Y": key("Y")}
	for i := range runs {
		isPlain := i%2 == 0
		template, meant := filled(r, 4, bindings, isPlain)
		f, e := Backquote(template)
		if e != api.OK {
			t.Fatalf("Backquote(%s): %v", show(template), e)
		}
		if got := value(f, bindings); !forms.Equal(got, meant) {
			t.Fatalf("Backquote(%s) = %s, whose value is %s, not %s", show(template), show(f), show(got), show(meant))
		}
		if isPlain {
			walk(f, func(x api.Form) {
				if x.Home == "COMMON-LISP" && !slices.Contains([]string{"QUOTE", "LIST", "APPEND", "NIL"}, x.Text) {
					t.Fatalf("Backquote(%s) = %s", show(template), show(f))
				}
			})
		}
		x, _ := filled(r, 3, bindings, false)
		if got, e := Backquote(mark("COMMA", x)); e != api.OK || !forms.Equal(got, x) {
			t.Fatalf("Backquote of a comma = %s, %v", show(got), e)
		}
	}
}

// randomForm returns any tree, mostly a wrong one.
func randomForm(r *rand.Rand, depth int) api.Form {
	f := api.Form{Kind: r.IntN(16) - 1, Text: pick(r, "", "1", "A", "COMMA", "\xff", "2 2", "0"), Home: pick(r, "", "", "KEYWORD", "READER", "P")}
	for range r.IntN(4) * min(depth, 1) {
		f.Kids = append(f.Kids, randomForm(r, depth-1))
	}
	return f
}

func TestP7_1AnyArguments(t *testing.T) {
	r := source(7)
	for range 10 * runs {
		f := randomForm(r, 3)
		if x, e := Backquote(f); e != api.OK && show(x) != "" {
			t.Fatal("a result with an error")
		}
		if x, e := Array(r.IntN(10)-1, f); e != api.OK && show(x) != "" {
			t.Fatal("a result with an error")
		}
		if x, e := Feature(f, []string{"A"}); e != api.OK && x {
			t.Fatal("a result with an error")
		}
	}
}

func TestP7_4AnyTables(t *testing.T) {
	r := source(8)
	const chars = "ab1.:|\\\"'()`,@#;+-=*x \n\x01é!"
	l := []rune(chars)
	sorted := slices.Sorted(slices.Values(l))
	for range 10 * runs {
		o := usual()
		o.Table.Case = r.IntN(4)
		for _, c := range sorted {
			if kind := r.IntN(7); r.IntN(6) == 0 && kind != token.Standard(c) {
				o.Table.Entries = append(o.Table.Entries, token.Entry{Char: c, Kind: kind})
			}
		}
		s := ""
		for range r.IntN(20) {
			s += string(l[r.IntN(len(l))])
		}
		x, at, e := Read(o, s, 0)
		if e == api.OK {
			checkForm(t, s, x)
			if y, _, e := Read(o, s[:x.To], x.From); e != api.OK || !sameResult(x, y) {
				t.Fatalf("Read(%v, %q) is another form from %d to %d: %v", o.Table, s, x.From, x.To, e)
			}
		} else if at < 0 || at > len(s) || !sameResult(x, Result{}) {
			t.Fatalf("Read(%v, %q): %d, %v", o.Table, s, at, e)
		}
		next, at, e := Blank(o, s, 0)
		if e == api.OK && (at != 0 || next > len(s)) || e != api.OK && (e != api.ErrEnd || at != len(s) || next != 0) {
			t.Fatalf("Blank(%v, %q): %d, %d, %v", o.Table, s, next, at, e)
		}
		all, at, e := All(o, s)
		one, place, f := One(o, s)
		isOne := f == api.OK && sameResult(one, x)
		if e == api.OK && (len(all) == 1) != isOne || e != api.OK && f == api.OK || f == api.ErrTwice && len(all) > 1 && place != all[1].From || at > len(s) {
			t.Fatalf("All(%v, %q): %d forms, %d, %v; One: %d, %v", o.Table, s, len(all), at, e, place, f)
		}
	}
}

func TestP7_1Memory(t *testing.T) {
	o := usual()
	o.Table.Entries = []token.Entry{{Char: '!', Kind: token.White}}
	a, _, _ := Read(o, "(a #2((b)) . c)", 0)
	want := show(a.Form)
	vector := a.Form.Kids[1]
	vector.Kids[0].Kids[0].Text = "CHANGED"
	if got := show(a.Form); got != strings.Replace(want, "B", "CHANGED", 1) {
		t.Errorf("repeated elements share memory: %s", got)
	}
	in := list(key("A"), list(key("B")))
	f, _ := Array(1, in)
	g, _ := Backquote(in)
	h, _ := Backquote(mark("COMMA", in))
	for _, x := range []api.Form{f, g, h} {
		walk(x, func(y api.Form) {
			for i := range y.Kids {
				y.Kids[i].Text = "CHANGED"
			}
		})
	}
	if show(in) != "(KEYWORD/A (KEYWORD/B))" {
		t.Errorf("a result shares memory with its argument: %s", show(in))
	}
}
