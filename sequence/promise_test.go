package sequence

import (
	"math/rand/v2"
	"slices"
	"strings"
	"testing"

	"commonform/api"
	"commonform/forms"
)

// ordered returns an element of the kind of an order.
func ordered(r *rand.Rand, order int) api.Form {
	switch order {
	case Characters:
		return char(string(rune('a' + r.IntN(4))))
	case Strings:
		return text(strings.Repeat("a", r.IntN(3)) + string(rune('a'+r.IntN(3))))
	}
	l := []api.Form{whole("0"), whole("1"), whole("-3"), leaf(api.FormRatio, "1/3"), leaf(api.FormSingle, "3eaaaaab"), leaf(api.FormSingle, "80000000"), leaf(api.FormDouble, "3ff0000000000000"), whole("123456789012345678901234567890")}
	return l[r.IntN(len(l))]
}

// couples returns lists of a key and a number that tells equal keys apart.
func couples(r *rand.Rand, most, order int) []api.Form {
	i := 0
	return sequence(r, most, func(r *rand.Rand) api.Form {
		i++
		return list(ordered(r, order), wholes(i)[0])
	})
}

// inserted sorts by putting each element behind the last one that is not greater.
func inserted(l []api.Form, order, key int) []api.Form {
	var out []api.Form
	for _, x := range l {
		at := len(out)
		for at > 0 && less(order, must(Taken(key, x)), must(Taken(key, out[at-1]))) {
			at--
		}
		out = slices.Insert(out, at, x)
	}
	return out
}

func less(order int, x, y api.Form) bool { return must(Less(order, x, y)) }

func TestP12_1Sort(t *testing.T) {
	r := source(4)
	for range 5000 {
		order := r.IntN(3)
		l := couples(r, 9, order)
		got, e := Sort(l, order, First)
		if want := inserted(l, order, First); e != api.OK || !forms.Equal(vector(got...), vector(want...)) {
			t.Fatalf("Sort(%v) = %v, %v, not %v", l, got, e, want)
		}
		if len(l) == 0 {
			continue
		}
		wrong := slices.Clone(l)
		wrong[r.IntN(len(l))] = []api.Form{whole("1"), list(forms.Nil(), whole("1")), list(complex(whole("1"), whole("2")), whole("1")), list(ordered(r, (order+1)%3), whole("1"))}[r.IntN(4)]
		if got, e := Sort(wrong, order, First); e != api.ErrType || len(got) > 0 {
			t.Fatalf("Sort(%v) = %v, %v", wrong, got, e)
		}
		if got, e := Merge(l, wrong, order, First); e != api.ErrType || len(got) > 0 {
			t.Fatalf("Merge with %v = %v, %v", wrong, got, e)
		}
		if got, e := Merge(wrong, l, order, First); e != api.ErrType || len(got) > 0 {
			t.Fatalf("Merge of %v = %v, %v", wrong, got, e)
		}
	}
}

// Merge of sequences that need not be sorted takes the next one of the first one, unless that of the other one is less.
func TestP12_1Merge(t *testing.T) {
	r := source(5)
	for range 5000 {
		order := r.IntN(3)
		a, b := couples(r, 6, order), couples(r, 6, order)
		var want []api.Form
		for i, k := 0, 0; i < len(a) || k < len(b); {
			if i == len(a) || k < len(b) && less(order, b[k].Kids[0], a[i].Kids[0]) {
				want = append(want, b[k])
				k++
			} else {
				want = append(want, a[i])
				i++
			}
		}
		if got, e := Merge(a, b, order, First); e != api.OK || !forms.Equal(vector(got...), vector(want...)) {
			t.Fatalf("Merge(%v, %v) = %v, %v, not %v", a, b, got, e, want)
		}
	}
}

func TestP12_2Tests(t *testing.T) {
	r := source(6)
	for range 30000 {
		x, y, z := element(r), element(r), element(r)
		for test := range 2 {
			a, b, c := must(Alike(test, x, y)), must(Alike(test, y, z)), must(Alike(test, x, z))
			if !must(Alike(test, x, x)) || a != must(Alike(test, y, x)) || a && b && !c {
				t.Fatalf("by %d: %v, %v, %v: %v, %v, %v", test, x, y, z, a, b, c)
			}
		}
		if must(Alike(Same, x, y)) && !must(Alike(Loose, x, y)) {
			t.Fatalf("%v and %v are alike by Same alone", x, y)
		}
		order := r.IntN(3)
		x, y, z = ordered(r, order), ordered(r, order), ordered(r, order)
		if less(order, x, y) && (less(order, y, x) || less(order, y, z) && !less(order, x, z)) || less(order, x, x) {
			t.Fatalf("Less of %v, %v, %v", x, y, z)
		}
	}
}

func TestP12_3Searching(t *testing.T) {
	r := source(7)
	for range 20000 {
		l, x := sequence(r, 8, atom), atom(r)
		o := anyOptions(r, len(l))
		o.Key, o.Count = 0, -1
		at, e := Position(x, l, o)
		y, none := Find(x, l, o)
		if e != api.OK || (at < 0) != (none == api.ErrNone) || at >= 0 && !forms.Equal(l[at], y) {
			t.Fatalf("Position of %v in %v is %d; Find: %v, %v", x, l, at, y, none)
		}
		n, _ := Count(x, l, o)
		if rest, _ := Remove(x, l, o); len(l)-len(rest) != n {
			t.Fatalf("Count of %v in %v is %d, Remove leaves %v", x, l, n, rest)
		}
		forth, back := o, o
		forth.FromEnd, back.FromEnd = false, true
		i, k := must(Position(x, l, forth)), must(Position(x, l, back))
		if k < i || i >= 0 && (i < o.Start || o.End >= 0 && k >= o.End) {
			t.Fatalf("Position of %v in %v: %d, and %d from the end", x, l, i, k)
		}
		for place := o.Start; place < i; place++ {
			if must(Alike(o.Test, x, l[place])) == !o.Not {
				t.Fatalf("%v in %v stands ahead of %d", x, l, i)
			}
		}
	}
}

func TestP12_4Changes(t *testing.T) {
	r := source(8)
	for range 20000 {
		l, x := sequence(r, 8, atom), atom(r)
		o := anyOptions(r, len(l))
		o.Key = 0
		mark := text("mark")
		rest, _ := Remove(x, l, o)
		changed, _ := Substitute(mark, x, l, o)
		marks := must(Count(mark, changed, all()))
		if len(l)-len(rest) != marks || o.Count >= 0 && marks > o.Count || len(changed) != len(l) {
			t.Fatalf("%v of %v: %v, %v", o, l, rest, changed)
		}
		if kept, _ := Remove(mark, changed, all()); !forms.Equal(vector(kept...), vector(rest...)) {
			t.Fatalf("%v of %v: Substitute changes others than Remove: %v, %v", o, l, rest, changed)
		}
		back, _ := Reverse(must(Reverse(l)))
		if !forms.Equal(vector(back...), vector(l...)) {
			t.Fatalf("Reverse of Reverse of %v is %v", l, back)
		}
		whole := Options{End: -1, Test: o.Test, FromEnd: o.FromEnd}
		distinct, _ := Distinct(l, whole)
		for i, y := range distinct {
			for _, z := range distinct[:i] {
				if must(Alike(o.Test, y, z)) {
					t.Fatalf("Distinct of %v has %v twice", l, y)
				}
			}
		}
		if is, _ := Subset(l, distinct, o.Test, Whole); !is {
			t.Fatalf("Distinct of %v is %v", l, distinct)
		}
	}
}

func TestP12_5Sorting(t *testing.T) {
	r := source(9)
	for range 5000 {
		order := r.IntN(3)
		a, b := couples(r, 9, order), couples(r, 9, order)
		x, y := must(Sort(a, order, First)), must(Sort(b, order, First))
		if is, _ := Subset(a, x, Same, Whole); !is || len(a) != len(x) {
			t.Fatalf("Sort of %v is %v", a, x)
		}
		for i := 1; i < len(x); i++ {
			p, q := x[i-1], x[i]
			isLater := less(Numbers, q.Kids[1], p.Kids[1])
			if less(order, q.Kids[0], p.Kids[0]) || !less(order, p.Kids[0], q.Kids[0]) && isLater {
				t.Fatalf("Sort of %v is %v", a, x)
			}
		}
		if again := must(Sort(x, order, First)); !forms.Equal(vector(again...), vector(x...)) {
			t.Fatalf("Sort of %v is %v", x, again)
		}
		merged, joined := must(Merge(x, y, order, First)), must(Sort(slices.Concat(x, y), order, First))
		if !forms.Equal(vector(merged...), vector(joined...)) {
			t.Fatalf("Merge of %v and %v is %v, not %v", x, y, merged, joined)
		}
	}
}

// P12.6 also has TestP12_1Sets.
func TestP12_6Sets(t *testing.T) {
	r := source(10)
	for range 20000 {
		a, b, test := sequence(r, 6, atom), sequence(r, 6, atom), r.IntN(2)
		shared, rest := must(Intersection(a, b, test, Whole)), must(Difference(a, b, test, Whole))
		for _, x := range a {
			o := Options{End: -1, Test: Same}
			i, k := must(Position(x, shared, o)), must(Position(x, rest, o))
			if (i < 0) == (k < 0) {
				t.Fatalf("%v of %v and %v: in %v, and in %v", x, a, b, shared, rest)
			}
		}
		if is, _ := Subset(a, must(Union(rest, shared, test, Whole)), test, Whole); !is {
			t.Fatalf("Union of Difference and Intersection of %v and %v", a, b)
		}
		if is, _ := Subset(a, must(Union(a, b, test, Whole)), test, Whole); !is {
			t.Fatalf("%v is no Subset of its Union with %v", a, b)
		}
	}
}

// The longest sequences are handled soon, whatever their elements are.
func TestP12_1Long(t *testing.T) {
	r := source(11)
	var l []api.Form
	for range 2000 {
		l = append(l, element(r))
	}
	first := must(Distinct(l, Options{End: -1, Test: Loose, FromEnd: true}))
	if union := must(Union(first, l, Loose, Whole)); !forms.Equal(vector(union...), vector(first...)) {
		t.Errorf("Union of Distinct has %d elements, not %d", len(union), len(first))
	}
	if n := must(Search(l[1999:], l, with(func(o *Options) { o.FromEnd = true }))); n != 1999 {
		t.Errorf("Search of the last element: %d", n)
	}
	if rest := must(Difference(l, l, Loose, Whole)); len(rest) > 0 {
		t.Errorf("Difference of a set and itself: %v", rest)
	}
}

// P1: no function panics, and with an error there is no result.
func TestP12_1AnyArguments(t *testing.T) {
	r := source(12)
	var any func(depth int) api.Form
	any = func(depth int) api.Form {
		f := api.Form{Kind: r.IntN(17) - 1, Text: []string{"", "1", "-1", "01", "1/2", "3f800000", "x", "\xff"}[r.IntN(8)]}
		for range r.IntN(4) {
			if depth > 0 {
				f.Kids = append(f.Kids, any(depth-1))
			}
		}
		return f
	}
	for range 20000 {
		l, m := sequence(r, 3, func(*rand.Rand) api.Form { return any(2) }), sequence(r, 3, func(*rand.Rand) api.Form { return any(2) })
		x, a, b := any(2), r.IntN(6)-1, r.IntN(6)-1
		o := Options{Start: r.IntN(5) - 1, End: r.IntN(6) - 2, Count: r.IntN(4) - 2, FromEnd: r.IntN(2) == 0, Not: r.IntN(2) == 0, Test: r.IntN(4) - 1, Key: r.IntN(6) - 1}
		results := map[string][]api.Form{}
		keep := func(name string, l []api.Form, e api.Errno) {
			if e != api.OK && len(l) > 0 {
				t.Fatalf("%s with the error %v: %v", name, e, l)
			}
			results[name] = l
		}
		one := func(name string, x api.Form, e api.Errno) {
			if e != api.OK && !forms.Equal(x, api.Form{}) {
				t.Fatalf("%s with the error %v: %v", name, e, x)
			}
		}
		number := func(name string, n int, e api.Errno) {
			if e != api.OK && n != 0 {
				t.Fatalf("%s with the error %v: %d", name, e, n)
			}
		}
		is := func(name string, is bool, e api.Errno) {
			if e != api.OK && is {
				t.Fatalf("%s with the error %v: %v", name, e, is)
			}
		}
		f, e := Find(x, l, o)
		one("Find", f, e)
		f, e = Taken(a, x)
		one("Taken", f, e)
		n, e := Position(x, l, o)
		number("Position", n, e)
		n, e = Count(x, l, o)
		number("Count", n, e)
		n, e = Search(m, l, o)
		number("Search", n, e)
		n, e = Mismatch(m, l, o)
		number("Mismatch", n, e)
		yes, e := Alike(a, x, f)
		is("Alike", yes, e)
		yes, e = Less(a, x, f)
		is("Less", yes, e)
		yes, e = Subset(l, m, a, b)
		is("Subset", yes, e)
		for name, call := range map[string]func() ([]api.Form, api.Errno){
			"Remove":       func() ([]api.Form, api.Errno) { return Remove(x, l, o) },
			"Substitute":   func() ([]api.Form, api.Errno) { return Substitute(x, x, l, o) },
			"Distinct":     func() ([]api.Form, api.Errno) { return Distinct(l, o) },
			"Subsequence":  func() ([]api.Form, api.Errno) { return Subsequence(l, a, b) },
			"Replace":      func() ([]api.Form, api.Errno) { return Replace(l, m, a, b, o.Start, o.End) },
			"Fill":         func() ([]api.Form, api.Errno) { return Fill(l, x, a, b) },
			"Reverse":      func() ([]api.Form, api.Errno) { return Reverse(l) },
			"Sort":         func() ([]api.Form, api.Errno) { return Sort(l, a, b) },
			"Merge":        func() ([]api.Form, api.Errno) { return Merge(l, m, a, b) },
			"Union":        func() ([]api.Form, api.Errno) { return Union(l, m, a, b) },
			"Intersection": func() ([]api.Form, api.Errno) { return Intersection(l, m, a, b) },
			"Difference":   func() ([]api.Form, api.Errno) { return Difference(l, m, a, b) },
		} {
			l, e := call()
			keep(name, l, e)
		}
		if len(results) != 12 {
			t.Fatalf("%d functions", len(results))
		}
	}
}
