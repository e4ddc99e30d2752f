package sequence

import (
	"math"
	"math/rand/v2"
	"slices"
	"strconv"
	"strings"
	"testing"

	"commonform/api"
	"commonform/forms"
	"commonform/number"
)

func leaf(kind int, text string) api.Form { return api.Form{Kind: kind, Text: text} }

func whole(s string) api.Form { return leaf(api.FormInt, s) }

func wholes(l ...int) []api.Form {
	var out []api.Form
	for _, n := range l {
		out = append(out, whole(strconv.Itoa(n)))
	}
	return out
}

func list(l ...api.Form) api.Form { return forms.List(l) }

func cons(kids ...api.Form) api.Form { return api.Form{Kind: api.FormCons, Kids: kids} }

func vector(l ...api.Form) api.Form { return api.Form{Kind: api.FormVector, Kids: l} }

func text(s string) api.Form { return leaf(api.FormString, s) }

func char(s string) api.Form { return leaf(api.FormChar, s) }

func complex(re, im api.Form) api.Form {
	return api.Form{Kind: api.FormComplex, Kids: []api.Form{re, im}}
}

// all looks at all elements.
func all() Options { return Options{End: -1, Count: -1} }

// with returns options, changed.
func with(change func(o *Options)) Options {
	o := all()
	change(&o)
	return o
}

// show writes elements for comparisons.
func show(l []api.Form, e api.Errno) string {
	if e != api.OK {
		return "error " + e.Error() + strings.Repeat("!", len(l))
	}
	var out []string
	for _, f := range l {
		out = append(out, f.Text+strings.Repeat("+", len(f.Kids)))
	}
	return strings.Join(out, " ")
}

func TestP12_1Alike(t *testing.T) {
	one, single, double := whole("1"), leaf(api.FormSingle, "3f800000"), leaf(api.FormDouble, "3ff0000000000000")
	half := leaf(api.FormRatio, "1/2")
	infinite := leaf(api.FormSingle, "7f800000")
	home := api.Form{Kind: api.FormString, Text: "A", Home: "P"}
	kid := api.Form{Kind: api.FormChar, Text: "a", Kids: wholes(1)}
	for i, x := range []struct {
		a, b        api.Form
		same, loose bool
	}{
		{one, one, true, true}, {one, single, false, true}, {single, double, false, true}, {one, half, false, false}, {half, leaf(api.FormSingle, "3f000000"), false, true}, {leaf(api.FormRatio, "1/3"), leaf(api.FormSingle, "3eaaaaab"), false, false},
		{leaf(api.FormSingle, "00000000"), leaf(api.FormSingle, "80000000"), false, true}, {whole("0"), leaf(api.FormDouble, "8000000000000000"), false, true}, {complex(single, leaf(api.FormSingle, "00000000")), one, false, true}, {complex(one, one), complex(single, single), false, true}, {complex(one, one), one, false, false},
		{infinite, infinite, true, true}, {infinite, leaf(api.FormSingle, "ff800000"), false, false}, {whole("01"), one, false, false}, {whole("01"), whole("01"), true, true}, {leaf(api.FormRatio, "2/4"), half, false, false}, {complex(one, whole("0")), one, false, false},
		{text("aB"), text("Ab"), false, true}, {text("ab"), text("ac"), false, false}, {text("é"), text("É"), false, false}, {text("[a"), text("{A"), false, false}, {text("a@"), text("a`"), false, false}, {text("a"), char("a"), false, false}, {char("z"), char("Z"), false, true}, {home, text("a"), false, true}, {kid, char("A"), false, true}, {kid, kid, true, true},
		{list(one, text("a")), list(single, text("A")), false, true}, {list(one), list(one, one), false, false}, {cons(), cons(), true, true}, {cons(), vector(), false, false}, {vector(one), vector(double), false, true}, {cons(one, one), vector(one, one), false, false}, {vector(vector(char("q"))), vector(vector(char("Q"))), false, true},
		{api.Form{Kind: api.FormCons, Text: "x", Kids: wholes(1, 2)}, cons(wholes(1, 2)...), false, true}, {api.Form{Kind: api.FormVector, Home: "x"}, vector(), false, true},
		{forms.Symbol("P", "a"), forms.Symbol("P", "A"), false, false}, {forms.Symbol("P", "A"), forms.Symbol("Q", "A"), false, false}, {forms.Symbol("P", "A"), forms.Symbol("P", "A"), true, true}, {leaf(api.FormBits, "01"), leaf(api.FormBits, "01"), true, true}, {leaf(api.FormArray, "0 1"), leaf(api.FormArray, "0 2"), false, false},
		{api.Form{Kind: api.FormArray, Kids: wholes(1)}, api.Form{Kind: api.FormArray, Kids: []api.Form{single}}, false, false}, {leaf(-1, "a"), leaf(-1, "a"), true, true}, {leaf(99, "a"), leaf(99, "A"), false, false}, {api.Form{Kids: []api.Form{}}, api.Form{}, true, true},
		{api.Form{Kids: wholes(1, 2)}, api.Form{Kids: []api.Form{{Kind: api.FormInt, Text: "1", Kids: wholes(2)}}}, false, false}, {api.Form{Text: "a", Home: "b"}, api.Form{Text: "ab"}, false, false}, {vector(text("a"), text("b")), vector(text("a4:text1:81:b")), false, false},
		// no two different lists of parts are taken for the same one
		{api.Form{Text: "x:", Home: "y"}, api.Form{Text: "x", Home: ":y"}, false, false}, {api.Form{Text: "13aaaaaaaaaa", Home: "yz"}, api.Form{Text: "2", Home: "aaaaaaaaaa2yz"}, false, false}, {vector(vector(one), half), vector(vector(one, half)), false, false}, {vector(text("1 0")), vector(one), false, false}, {vector(one, half), vector(one, one, half), false, false},
	} {
		for test, want := range []bool{x.same, x.loose} {
			for _, pair := range [][2]api.Form{{x.a, x.b}, {x.b, x.a}} {
				if got, e := Alike(test, pair[0], pair[1]); got != want || e != api.OK {
					t.Errorf("%d: Alike(%d, %v, %v) = %v, %v", i, test, pair[0], pair[1], got, e)
				}
			}
		}
	}
	for _, test := range []int{-1, 2, math.MaxInt} {
		if got, e := Alike(test, one, one); got || e != api.ErrArg {
			t.Errorf("Alike(%d) = %v, %v", test, got, e)
		}
	}
}

func TestP12_1Less(t *testing.T) {
	one, third := whole("1"), leaf(api.FormRatio, "1/3")
	for i, x := range []struct {
		order int
		a, b  api.Form
		want  bool
		e     api.Errno
	}{
		{Numbers, one, whole("2"), true, api.OK}, {Numbers, whole("2"), one, false, api.OK}, {Numbers, one, one, false, api.OK}, {Numbers, one, leaf(api.FormSingle, "3f800000"), false, api.OK}, {Numbers, third, leaf(api.FormSingle, "3eaaaaab"), true, api.OK}, {Numbers, whole("9"), whole("10"), true, api.OK},
		{Numbers, one, complex(one, one), false, api.ErrType}, {Numbers, complex(one, one), one, false, api.ErrType}, {Numbers, one, whole("01"), false, api.ErrType}, {Numbers, leaf(api.FormSingle, "7f800000"), one, false, api.ErrType}, {Numbers, one, text("1"), false, api.ErrType},
		{Characters, char("a"), char("b"), true, api.OK}, {Characters, char("a"), char("B"), false, api.OK}, {Characters, char(""), char("a"), true, api.OK}, {Characters, char("a"), text("b"), false, api.ErrType}, {Characters, one, char("a"), false, api.ErrType},
		{Strings, text("ab"), text("abc"), true, api.OK}, {Strings, text("abc"), text("ab"), false, api.OK}, {Strings, text("z"), text("é"), true, api.OK}, {Strings, text("a"), text("a"), false, api.OK}, {Strings, text(""), text("a"), true, api.OK}, {Strings, text("a"), char("b"), false, api.ErrType}, {Strings, text("a"), forms.Symbol("", "b"), false, api.ErrType},
		{-1, one, text("a"), false, api.ErrArg}, {3, one, text("a"), false, api.ErrArg},
	} {
		if got, e := Less(x.order, x.a, x.b); got != x.want || e != x.e {
			t.Errorf("%d: Less(%d, %v, %v) = %v, %v", i, x.order, x.a, x.b, got, e)
		}
	}
}

func TestP12_1Taken(t *testing.T) {
	one, two := whole("1"), whole("2")
	for i, x := range []struct {
		key  int
		f    api.Form
		want api.Form
		e    api.Errno
	}{
		{Whole, one, one, api.OK}, {Whole, api.Form{}, api.Form{}, api.OK}, {First, list(one, two), one, api.OK}, {First, cons(one), one, api.OK}, {First, cons(), api.Form{}, api.ErrType}, {First, vector(one), api.Form{}, api.ErrType}, {First, forms.Nil(), api.Form{}, api.ErrType},
		{Second, list(one, two), two, api.OK}, {Second, cons(one, two), api.Form{}, api.ErrType}, {Second, cons(one, cons(two, one)), two, api.OK}, {Second, cons(one, cons(two)), two, api.OK}, {Second, cons(one, cons()), api.Form{}, api.ErrType}, {Second, cons(one, vector(two)), api.Form{}, api.ErrType}, {Second, cons(cons(two)), two, api.OK}, {Second, cons(one), api.Form{}, api.ErrType}, {Second, cons(), api.Form{}, api.ErrType}, {Second, vector(one, two, one), api.Form{}, api.ErrType}, {Second, cons(one, two, cons(one, one)), two, api.OK},
		{Length, vector(one, two), two, api.OK}, {Length, vector(), whole("0"), api.OK}, {Length, text("é"), two, api.OK}, {Length, list(one, two), two, api.OK}, {Length, cons(one, two), one, api.OK}, {Length, cons(), whole("-1"), api.OK}, {Length, forms.Nil(), api.Form{}, api.ErrType}, {Length, leaf(api.FormBits, "01"), api.Form{}, api.ErrType}, {Length, char("a"), api.Form{}, api.ErrType},
		{-1, one, api.Form{}, api.ErrArg}, {4, cons(), api.Form{}, api.ErrArg},
	} {
		if got, e := Taken(x.key, x.f); !forms.Equal(got, x.want) || e != x.e {
			t.Errorf("%d: Taken(%d, %v) = %v, %v", i, x.key, x.f, got, e)
		}
	}
}

// Each function with options has their errors behind those of sequences, and ahead of those of keys.
func TestP12_1OptionErrors(t *testing.T) {
	long, l := make([]api.Form, 2001), wholes(1, 2, 3)
	calls := map[string]func(l []api.Form, o Options) api.Errno{
		"Find":       func(l []api.Form, o Options) api.Errno { _, e := Find(l[0], l, o); return e },
		"Position":   func(l []api.Form, o Options) api.Errno { _, e := Position(l[0], l, o); return e },
		"Count":      func(l []api.Form, o Options) api.Errno { _, e := Count(l[0], l, o); return e },
		"Search":     func(l []api.Form, o Options) api.Errno { _, e := Search(l, l, o); return e },
		"Remove":     func(l []api.Form, o Options) api.Errno { _, e := Remove(l[0], l, o); return e },
		"Substitute": func(l []api.Form, o Options) api.Errno { _, e := Substitute(l[0], l[0], l, o); return e },
		"Distinct":   func(l []api.Form, o Options) api.Errno { _, e := Distinct(l, o); return e },
		"Mismatch":   func(l []api.Form, o Options) api.Errno { _, e := Mismatch(l, l, o); return e },
	}
	for name, call := range calls {
		for i, x := range []struct {
			o Options
			e api.Errno
		}{
			{with(func(o *Options) { o.Test, o.Start = 2, -1 }), api.ErrArg}, {with(func(o *Options) { o.Test = -1 }), api.ErrArg}, {with(func(o *Options) { o.Key, o.Start = 4, 9 }), api.ErrArg}, {with(func(o *Options) { o.Key = -1 }), api.ErrArg}, {with(func(o *Options) { o.Count, o.End = -2, 9 }), api.ErrArg},
			{with(func(o *Options) { o.Start, o.Key = -1, First }), api.ErrOrder}, {with(func(o *Options) { o.End, o.Key = -2, First }), api.ErrOrder}, {with(func(o *Options) { o.Start, o.End, o.Key = 2, 1, First }), api.ErrOrder}, {with(func(o *Options) { o.End, o.Key = 4, First }), api.ErrOrder}, {with(func(o *Options) { o.Start, o.Key = 4, First }), api.ErrOrder}, {with(func(o *Options) { o.Start, o.End = math.MinInt, math.MaxInt }), api.ErrOrder},
			{with(func(o *Options) { o.Key = First }), api.ErrType},
		} {
			e := x.e
			if name == "Mismatch" && e == api.ErrOrder {
				e = api.OK
				if x.o.Key == First {
					e = api.ErrType
				}
			}
			if got := call(l, x.o); got != e {
				t.Errorf("%s %d: %v, not %v", name, i, got, e)
			}
			if got := call(long, x.o); got != api.ErrSize {
				t.Errorf("%s of too many, %d: %v", name, i, got)
			}
		}
	}
	if _, e := Find(whole("1"), l, with(func(o *Options) { o.Start, o.Key = 3, First })); e != api.ErrNone {
		t.Errorf("Find at the end: %v", e)
	}
}

// Both sequences of a function have errors, the first one first.
func TestP12_1PairErrors(t *testing.T) {
	long, l, o := make([]api.Form, 2001), wholes(1), with(func(o *Options) { o.Key = First })
	pairs := []api.Form{list(whole("1"))}
	for name, call := range map[string]func(a, b []api.Form, test, key int) api.Errno{
		"Search": func(a, b []api.Form, test, key int) api.Errno {
			_, e := Search(a, b, Options{End: -1, Test: test, Key: key})
			return e
		},
		"Mismatch": func(a, b []api.Form, test, key int) api.Errno {
			_, e := Mismatch(a, b, Options{End: -1, Test: test, Key: key})
			return e
		},
		"Merge":        func(a, b []api.Form, test, key int) api.Errno { _, e := Merge(a, b, test, key); return e },
		"Sort":         func(a, b []api.Form, test, key int) api.Errno { _, e := Sort(slices.Concat(a, b), test, key); return e },
		"Union":        func(a, b []api.Form, test, key int) api.Errno { _, e := Union(a, b, test, key); return e },
		"Intersection": func(a, b []api.Form, test, key int) api.Errno { _, e := Intersection(a, b, test, key); return e },
		"Difference":   func(a, b []api.Form, test, key int) api.Errno { _, e := Difference(a, b, test, key); return e },
		"Subset":       func(a, b []api.Form, test, key int) api.Errno { _, e := Subset(a, b, test, key); return e },
	} {
		for i, x := range []struct {
			a, b      []api.Form
			test, key int
			e         api.Errno
		}{
			{long, l, 9, 9, api.ErrSize}, {l, long, 9, 9, api.ErrSize}, {l, l, -1, 0, api.ErrArg}, {l, l, 3, First, api.ErrArg}, {l, l, 0, -1, api.ErrArg}, {l, l, 0, 4, api.ErrArg},
			{l, pairs, 0, First, api.ErrType}, {pairs, l, 0, First, api.ErrType}, {pairs, pairs, 0, First, api.OK}, {nil, nil, 0, First, api.OK}, {nil, l, 0, Second, api.ErrType},
		} {
			if got := call(x.a, x.b, x.test, x.key); got != x.e {
				t.Errorf("%s %d: %v, not %v", name, i, got, x.e)
			}
		}
	}
	for _, call := range []func(a, b []api.Form, o Options) (int, api.Errno){Search, Mismatch} {
		for _, x := range [][2][]api.Form{{long, l}, {l, long}} {
			if n, e := call(x[0], x[1], all()); n != 0 || e != api.ErrSize {
				t.Errorf("of too many: %d, %v", n, e)
			}
		}
	}
	if _, e := Search(l, pairs, with(func(o *Options) { o.Key, o.Start = First, 1 })); e != api.ErrType {
		t.Errorf("the keys of part: %v", e)
	}
	if n, e := Search(pairs, append(wholes(1), pairs...), with(func(o *Options) { o.Key, o.Start = First, 1 })); n != 1 || e != api.OK {
		t.Errorf("the key of an element that is not looked at: %d, %v", n, e)
	}
	if _, e := Count(l[0], append(pairs, l...), o); e != api.ErrType {
		t.Errorf("the key of a later element: %v", e)
	}
	if x, e := Find(l[0], append(pairs, l...), with(func(o *Options) { o.Key, o.End = First, 1 })); e != api.OK || !forms.Equal(x, pairs[0]) {
		t.Errorf("the key of an element behind the end: %v, %v", x, e)
	}
}

func TestP12_1RangeErrors(t *testing.T) {
	long, l, m := make([]api.Form, 2001), wholes(1, 2, 3), wholes(7, 8)
	x := whole("0")
	for i, c := range []struct {
		got, want string
	}{
		{show(Subsequence(long, -1, 0)), "error 4"}, {show(Subsequence(l, -1, 0)), "error 7"}, {show(Subsequence(l, 2, 1)), "error 7"}, {show(Subsequence(l, 0, 4)), "error 7"}, {show(Subsequence(l, 4, -1)), "error 7"}, {show(Subsequence(l, 0, -2)), "error 7"}, {show(Subsequence(l, 3, 3)), ""}, {show(Subsequence(l, 3, -1)), ""}, {show(Subsequence(nil, 0, -1)), ""}, {show(Subsequence(l, 1, 2)), "2"},
		{show(Fill(long, x, -1, 0)), "error 4"}, {show(Fill(l, x, 0, 4)), "error 7"}, {show(Fill(l, x, 4, -1)), "error 7"}, {show(Fill(l, x, 1, -1)), "1 0 0"}, {show(Fill(l, x, 1, 1)), "1 2 3"}, {show(Fill(nil, x, 0, 0)), ""},
		{show(Replace(long, l, -1, 0, -1, 0)), "error 4"}, {show(Replace(l, long, -1, 0, -1, 0)), "error 4"}, {show(Replace(l, m, 4, -1, 0, -1)), "error 7"}, {show(Replace(l, m, 0, -1, 3, -1)), "error 7"}, {show(Replace(l, m, 0, -1, 0, 3)), "error 7"}, {show(Replace(l, m, 0, 4, 0, -1)), "error 7"},
		{show(Replace(l, m, 0, -1, 0, -1)), "7 8 3"}, {show(Replace(l, m, 2, -1, 0, -1)), "1 2 7"}, {show(Replace(l, m, 0, 1, 0, -1)), "7 2 3"}, {show(Replace(l, m, 1, -1, 1, -1)), "1 8 3"}, {show(Replace(l, m, 0, -1, 0, 1)), "7 2 3"}, {show(Replace(l, l, 1, -1, 0, -1)), "1 1 2"}, {show(Replace(l, nil, 0, -1, 0, -1)), "1 2 3"},
		{show(Reverse(long)), "error 4"}, {show(Reverse(l)), "3 2 1"}, {show(Reverse(nil)), ""}, {show(Reverse(long[1:])), strings.Repeat(" ", 1999)},
		{show(Merge(long[:1001], long[:1000], Strings, Whole)), "error 13"}, {show(Union(wholes(1), wholes(1, 2, 2), Same, Whole)), "1 2 2"},
	} {
		if c.got != c.want {
			t.Errorf("%d: %q, not %q", i, c.got, c.want)
		}
	}
	strings := slices.Repeat([]api.Form{text("a")}, 1000)
	for i, e := range []api.Errno{api.OK, api.ErrSize} {
		l, got := Merge(strings, slices.Repeat([]api.Form{text("b")}, 1000+i), Strings, Whole)
		if got != e || e == api.OK && len(l) != 2000 || e != api.OK && len(l) > 0 {
			t.Errorf("Merge of 1000 and %d: %d, %v", 1000+i, len(l), got)
		}
		l, got = Union(strings, slices.Repeat([]api.Form{text("b")}, 1000+i), Same, Whole)
		if got != e || e == api.OK && len(l) != 2000 || e != api.OK && len(l) > 0 {
			t.Errorf("Union of 1000 and %d: %d, %v", 1000+i, len(l), got)
		}
	}
}

func TestP12_1Memory(t *testing.T) {
	x := list(whole("1"))
	l := []api.Form{list(whole("1")), list(whole("2"))}
	results := [][]api.Form{{must(Find(x, l, all()))}, {must(Taken(Whole, x))}, {must(Taken(First, list(x)))}, must(Remove(whole("9"), l, all())), must(Substitute(x, x, slices.Concat(l, l), all())), must(Distinct(l, all())), must(Subsequence(l, 0, -1)), must(Replace(l, []api.Form{x, x}, 0, -1, 0, -1)), must(Fill(l, x, 0, -1)), must(Reverse(l)), must(Sort(l, Numbers, First)), must(Merge(l, l, Numbers, First)), must(Union(l, []api.Form{x}, Same, Whole)), must(Intersection(l, l, Same, Whole)), must(Difference(l, nil, Same, Whole))}
	for i, r := range results {
		for k := range r {
			if before := r[k].Kids[0].Text; before != "1" && before != "2" {
				t.Errorf("%d: two elements share their memory", i)
			}
			r[k].Kids[0].Text = "9"
		}
	}
	if x.Kids[0].Text != "1" || l[0].Kids[0].Text != "1" || l[1].Kids[0].Text != "2" {
		t.Errorf("a result shares its memory with %v, %v", x, l)
	}
}

// must lets the error of a right call go.
func must[T any](x T, _ api.Errno) T { return x }

func source(seed uint64) *rand.Rand { return rand.New(rand.NewPCG(seed, 12)) }

// atom returns one of a few elements of which many are alike.
func atom(r *rand.Rand) api.Form {
	l := []api.Form{whole("0"), whole("1"), whole("2"), leaf(api.FormSingle, "3f800000"), leaf(api.FormDouble, "4000000000000000"), leaf(api.FormSingle, "80000000"), leaf(api.FormRatio, "1/2"), leaf(api.FormSingle, "3f000000"), complex(whole("1"), whole("2")), complex(leaf(api.FormSingle, "3f800000"), leaf(api.FormSingle, "00000000")), whole("01"), text("a"), text("A"), text("ab"), text("aB"), char("a"), char("A"), char("b"), forms.Nil(), forms.Symbol("P", "a"), leaf(api.FormBits, "0")}
	return l[r.IntN(len(l))]
}

func element(r *rand.Rand) api.Form {
	switch r.IntN(4) {
	case 0:
		return list(atom(r), atom(r))
	case 1:
		return vector(atom(r))
	}
	return atom(r)
}

func sequence(r *rand.Rand, most int, of func(r *rand.Rand) api.Form) []api.Form {
	var out []api.Form
	for range r.IntN(most + 1) {
		out = append(out, of(r))
	}
	return out
}

// alike is Alike by its definition.
func alike(test int, x, y api.Form) bool {
	if forms.Equal(x, y) {
		return true
	}
	if test == Same {
		return false
	}
	if same, e := number.Equals(x, y); e == api.OK {
		return same
	}
	switch {
	case x.Kind != y.Kind:
		return false
	case x.Kind == api.FormChar || x.Kind == api.FormString:
		return strings.ToUpper(x.Text) == strings.ToUpper(y.Text)
	case x.Kind == api.FormCons || x.Kind == api.FormVector:
		return slices.EqualFunc(x.Kids, y.Kids, func(a, b api.Form) bool { return alike(test, a, b) })
	}
	return false
}

// keysFor returns keys of elements, or false.
func keysFor(key int, l []api.Form) ([]api.Form, bool) {
	var out []api.Form
	for _, x := range l {
		k, e := Taken(key, x)
		if e != api.OK {
			return nil, false
		}
		out = append(out, k)
	}
	return out, true
}

// anyOptions returns right options for a sequence.
func anyOptions(r *rand.Rand, n int) Options {
	o := Options{Start: r.IntN(n + 1), End: -1, Count: r.IntN(5) - 1, FromEnd: r.IntN(2) == 0, Not: r.IntN(4) == 0, Test: r.IntN(2)}
	if r.IntN(2) == 0 {
		o.End = o.Start + r.IntN(n-o.Start+1)
	}
	if r.IntN(3) == 0 {
		o.Key = r.IntN(4)
	}
	return o
}

// takenBy returns which elements are taken, by the definition; false if a key is wrong.
func takenBy(x api.Form, l []api.Form, o Options) ([]int, bool) {
	end := o.End
	if end < 0 {
		end = len(l)
	}
	keys, ok := keysFor(o.Key, l[o.Start:end])
	if !ok {
		return nil, false
	}
	var out []int
	for i, k := range keys {
		if alike(o.Test, x, k) == !o.Not {
			out = append(out, o.Start+i)
		}
	}
	return out, true
}

// Searching and changing is as its definition says.
func TestP12_1Searches(t *testing.T) {
	r := source(1)
	for range 30000 {
		l := sequence(r, 8, element)
		x, other, o := element(r), text("new"), anyOptions(r, len(l))
		found, ok := takenBy(x, l, o)
		y, e1 := Find(x, l, o)
		at, e2 := Position(x, l, o)
		n, e3 := Count(x, l, o)
		removed, e4 := Remove(x, l, o)
		changed, e5 := Substitute(other, x, l, o)
		if !ok {
			if e1 != api.ErrType || e2 != api.ErrType || e3 != api.ErrType || e4 != api.ErrType || e5 != api.ErrType || at != 0 || n != 0 || len(removed)+len(changed) > 0 {
				t.Fatalf("%v %v: %v %v %v %v %v", l, o, e1, e2, e3, e4, e5)
			}
			continue
		}
		if o.FromEnd {
			slices.Reverse(found)
		}
		first, none := -1, api.ErrNone
		var want api.Form
		if len(found) > 0 {
			first, none, want = found[0], api.OK, l[found[0]]
		}
		if !forms.Equal(y, want) || e1 != none || at != first || e2 != api.OK || n != len(found) || e3 != api.OK {
			t.Fatalf("%v in %v, %v: %v, %v, %d, %d", x, l, o, y, e1, at, n)
		}
		if o.Count >= 0 && len(found) > o.Count {
			found = found[:o.Count]
		}
		var rest, next []api.Form
		for i, y := range l {
			if slices.Contains(found, i) {
				next = append(next, other)
			} else {
				rest, next = append(rest, y), append(next, y)
			}
		}
		if !forms.Equal(vector(rest...), vector(removed...)) || !forms.Equal(vector(next...), vector(changed...)) || e4 != api.OK || e5 != api.OK {
			t.Fatalf("%v in %v, %v: Remove %v, Substitute %v", x, l, o, removed, changed)
		}
	}
}

func TestP12_1DistinctSearchMismatch(t *testing.T) {
	r := source(2)
	for range 30000 {
		l, part := sequence(r, 7, element), sequence(r, 3, element)
		o := anyOptions(r, len(l))
		if len(l) > 1 && r.IntN(2) == 0 {
			i := r.IntN(len(l))
			part = slices.Clone(l[i:min(len(l), i+r.IntN(3))])
		}
		end := o.End
		if end < 0 {
			end = len(l)
		}
		keys, ok := keysFor(o.Key, l[o.Start:end])
		distinct, e := Distinct(l, o)
		if ok != (e == api.OK) {
			t.Fatalf("Distinct: %v", e)
		}
		var want []api.Form
		for i, x := range l {
			isLeft := false
			for k := o.Start; k < end && ok && i >= o.Start && i < end; k++ {
				isLeft = isLeft || (k > i && !o.FromEnd || k < i && o.FromEnd) && alike(o.Test, keys[i-o.Start], keys[k-o.Start]) == !o.Not
			}
			if !isLeft && ok {
				want = append(want, x)
			}
		}
		if !forms.Equal(vector(want...), vector(distinct...)) {
			t.Fatalf("Distinct of %v, %v: %v", l, o, distinct)
		}
		wanted, fine := keysFor(o.Key, part)
		place := -1
		for i := o.Start; ok && fine && i+len(part) <= end; i++ {
			if slices.EqualFunc(wanted, keys[i-o.Start:i-o.Start+len(part)], func(a, b api.Form) bool { return alike(o.Test, a, b) }) && (place < 0 || o.FromEnd) {
				place = i
			}
		}
		got, e := Search(part, l, o)
		if (e == api.OK) != (ok && fine) || e == api.OK && got != place || e != api.OK && (got != 0 || e != api.ErrType) {
			t.Fatalf("Search of %v in %v, %v: %d, %v, not %d", part, l, o, got, e, place)
		}
		keys, ok = keysFor(o.Key, l)
		place = 0
		for place < len(wanted) && place < len(keys) && alike(o.Test, wanted[place], keys[place]) {
			place++
		}
		if place == len(wanted) && place == len(keys) {
			place = -1
		}
		got, e = Mismatch(part, l, o)
		if (e == api.OK) != (ok && fine) || e == api.OK && got != place || e != api.OK && (got != 0 || e != api.ErrType) {
			t.Fatalf("Mismatch of %v and %v, %v: %d, %v, not %d", part, l, o, got, e, place)
		}
	}
}

func TestP12_1Sets(t *testing.T) {
	r := source(3)
	for range 20000 {
		a, b := sequence(r, 6, element), sequence(r, 6, element)
		test, key := r.IntN(2), 0
		if r.IntN(4) == 0 {
			key = r.IntN(4)
		}
		x, ok := keysFor(key, a)
		y, fine := keysFor(key, b)
		union, e1 := Union(a, b, test, key)
		shared, e2 := Intersection(a, b, test, key)
		rest, e3 := Difference(a, b, test, key)
		is, e4 := Subset(a, b, test, key)
		if !ok || !fine {
			if e1 != api.ErrType || e2 != api.ErrType || e3 != api.ErrType || e4 != api.ErrType || is || len(union)+len(shared)+len(rest) > 0 {
				t.Fatalf("%v %v: %v, %v, %v, %v", a, b, e1, e2, e3, e4)
			}
			continue
		}
		all, both, alone := slices.Clone(a), []api.Form(nil), []api.Form(nil)
		for i, k := range x {
			if slices.ContainsFunc(y, func(z api.Form) bool { return alike(test, k, z) }) {
				both = append(both, a[i])
			} else {
				alone = append(alone, a[i])
			}
		}
		for i, k := range y {
			if !slices.ContainsFunc(x, func(z api.Form) bool { return alike(test, k, z) }) {
				all = append(all, b[i])
			}
		}
		if !forms.Equal(vector(all...), vector(union...)) || !forms.Equal(vector(both...), vector(shared...)) || !forms.Equal(vector(alone...), vector(rest...)) || is != (len(alone) == 0) {
			t.Fatalf("%v and %v: %v, %v, %v, %v", a, b, union, shared, rest, is)
		}
		if is, e := Subset(a, union, test, key); !is || e != api.OK {
			t.Fatalf("%v is no Subset of the Union %v: %v", a, union, e)
		}
		if len(shared)+len(rest) != len(a) {
			t.Fatalf("%v has the Intersection %v and the Difference %v", a, shared, rest)
		}
		again, e := Union(rest, shared, test, key)
		if is, _ := Subset(a, again, test, key); e != api.OK || !is {
			t.Fatalf("Union of Difference and Intersection of %v is %v", a, again)
		}
	}
}
