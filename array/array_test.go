package array

import (
	"math"
	"slices"
	"strings"
	"testing"

	"commonform/api"
	"commonform/forms"
)

func leaf(kind int, text string) api.Form { return api.Form{Kind: kind, Text: text} }

func whole(s string) api.Form { return leaf(api.FormInt, s) }

func list(l ...api.Form) api.Form { return forms.List(l) }

// label is a right form that no array has as an element.
func label() api.Form {
	return api.Form{Kind: api.FormLabel, Text: "0", Kids: []api.Form{list(whole("1"))}}
}

// own describes an array with elements of its own.
func own(dims ...int) Array { return Array{Dims: dims, Fill: -1, Adjustable: true, Target: -1} }

// with returns an array, changed.
func with(a Array, change func(a *Array)) Array {
	change(&a)
	return a
}

func bitty(a *Array) { a.Bits = true }

func rigid(a *Array) { a.Adjustable = false }

func filled(n int) func(a *Array) { return func(a *Array) { a.Fill = n } }

func displaced(target, offset int) func(a *Array) {
	return func(a *Array) { a.Target, a.Offset = target, offset }
}

// made returns the number of an array that must be right.
func made(t *testing.T, r *Room, a Array, initial api.Form) int {
	t.Helper()
	n, e := r.Make(a, initial)
	if e != api.OK {
		t.Fatalf("Make(%v): %v", a, e)
	}
	return n
}

// want reports an error that is not the one that is meant.
func want(t *testing.T, what string, got, e api.Errno) {
	t.Helper()
	if got != e {
		t.Errorf("%s: %v, not %v", what, got, e)
	}
}

// texts returns the texts of the contents of an array.
func texts(t *testing.T, r *Room, a int) string {
	t.Helper()
	l, e := r.Contents(a)
	want(t, "Contents", e, api.OK)
	var out []string
	for _, x := range l {
		out = append(out, x.Text)
	}
	return strings.Join(out, " ")
}

// fill sets the elements of an array to the numbers from 0 on.
func fill(t *testing.T, r *Room, a int) {
	t.Helper()
	n, _ := r.Total(a)
	for i := range n {
		want(t, "Set", r.Set(a, i, whole(string(rune('0'+i)))), api.OK)
	}
}

// sameArray compares without a difference between nil and empty.
func sameArray(a, b Array) bool {
	return slices.Equal(a.Dims, b.Dims) && a.Fill == b.Fill && a.Adjustable == b.Adjustable && a.Target == b.Target && a.Offset == b.Offset && a.Bits == b.Bits
}

// Each wrong array has all errors behind the first one, too, as far as they fit together.
func TestP11_1MakeErrors(t *testing.T) {
	r := NewRoom()
	made(t, r, own(2, 3), whole("0"))
	made(t, r, with(own(5), bitty), whole("1"))
	wrong := leaf(99, "")
	for _, x := range []struct {
		a       Array
		initial api.Form
		e       api.Errno
	}{
		{with(own(1, 1, 1, 1, 1, 1, 1, -1), filled(9)), wrong, api.ErrSize}, {with(own(2001, 3000), filled(9)), wrong, api.ErrRange}, {with(own(-1, 0), filled(9)), wrong, api.ErrRange}, {with(own(2000, 2), filled(9)), wrong, api.ErrLarge},
		{own(2000, 2000, 2000, 2000, 2000, 2000, 2000), wrong, api.ErrLarge}, {own(2000, 2000, 2000, 2000, 2000, 2000, 0), whole("0"), api.OK}, {own(2000), whole("0"), api.OK}, {own(50, 40), whole("0"), api.OK},
		{with(own(1, 1), func(a *Array) { a.Fill, a.Target = 0, -2 }), wrong, ErrRank}, {with(own(), func(a *Array) { a.Fill, a.Target = -2, -2 }), wrong, ErrRank},
		{with(own(3), func(a *Array) { a.Fill, a.Target = -2, -2 }), wrong, api.ErrRange}, {with(own(3), func(a *Array) { a.Fill, a.Target = 4, -2 }), wrong, api.ErrRange}, {with(own(3), filled(3)), whole("0"), api.OK}, {with(own(3), filled(0)), whole("0"), api.OK},
		{with(own(3), func(a *Array) { a.Target, a.Offset = -2, 0 }), wrong, api.ErrArg}, {with(own(3), func(a *Array) { a.Target, a.Offset = -1, 1 }), wrong, api.ErrArg}, {with(own(3), func(a *Array) { a.Target, a.Offset = -1, -1 }), wrong, api.ErrArg},
		{with(own(3), displaced(99, -1)), wrong, api.ErrNone}, {with(own(3), func(a *Array) { a.Target, a.Offset, a.Bits = 0, -1, true }), wrong, ErrBits}, {with(own(3), displaced(1, -1)), wrong, ErrBits},
		{with(own(3), displaced(0, -1)), wrong, api.ErrRange}, {with(own(3), displaced(0, 4)), wrong, api.ErrRange}, {with(own(3), displaced(0, math.MaxInt)), wrong, api.ErrRange}, {with(own(7), displaced(0, 0)), wrong, api.ErrRange}, {with(own(0), displaced(0, 7)), wrong, api.ErrRange},
		{with(own(3), displaced(0, 3)), wrong, api.OK}, {with(own(0), displaced(0, 6)), wrong, api.OK}, {with(own(), displaced(0, 5)), wrong, api.OK}, {with(with(own(2, 2), displaced(1, 1)), bitty), wrong, api.OK},
		{own(3), wrong, api.ErrForm}, {own(0), label(), api.ErrForm}, {own(3), list(whole("1"), label()), api.ErrForm}, {own(3), leaf(api.FormRef, "0"), api.ErrForm},
		{with(own(3), bitty), wrong, api.ErrForm}, {with(own(3), bitty), whole("2"), ErrBits}, {with(own(3), bitty), leaf(api.FormString, "1"), ErrBits}, {with(own(3), bitty), whole("-1"), ErrBits}, {with(own(3), bitty), whole("1"), api.OK},
	} {
		before := len(r.arrays)
		n, e := r.Make(x.a, x.initial)
		if e != x.e || e != api.OK && (n != 0 || len(r.arrays) != before) || e == api.OK && n != before {
			t.Errorf("Make(%v, %v) = %d, %v, not %v", x.a, x.initial, n, e, x.e)
		}
		if of, e := r.Of(n); x.e == api.OK && (e != api.OK || !sameArray(of, x.a)) {
			t.Errorf("Of what was made as %v: %v, %v", x.a, of, e)
		}
	}
}

func TestP11_1Codes(t *testing.T) {
	if ErrRank != 130 || ErrFill != 131 || ErrBits != 132 {
		t.Error(ErrRank, ErrFill, ErrBits)
	}
}

// With an error, numbers are 0.
func TestP11_1Zero(t *testing.T) {
	var none *Room
	r := NewRoom()
	a := made(t, r, own(2, 3), whole("0"))
	b := made(t, r, own(3), whole("0"))
	for i, n := range []int{
		first(none.Make(own(1), whole("1"))), first(r.Make(own(-1), whole("1"))), first(none.Total(0)), first(r.Total(9)), first(r.Length(9)), first(r.Length(a)), first(r.Index(9, nil)), first(r.Index(a, []int{1})), first(r.Index(a, []int{1, 3})), first(r.Index(b, []int{3})), first(r.Push(9, whole("1"), 1)), first(r.Push(b, whole("1"), 1)),
	} {
		if n != 0 {
			t.Errorf("%d: %d", i, n)
		}
	}
	for _, l := range [][2]int{{9, 0}, {a, -1}, {a, 6}} {
		if to, at, e := r.Where(l[0], l[1]); to != 0 || at != 0 || e == api.OK {
			t.Errorf("Where%v = %d, %d, %v", l, to, at, e)
		}
	}
}

func TestP11_1MakeFull(t *testing.T) {
	r := NewRoom()
	for i := range 100 {
		if n := made(t, r, own(i), whole("0")); n != i {
			t.Errorf("Make = %d, not %d", n, i)
		}
	}
	_, e := r.Make(own(1), leaf(0, ""))
	want(t, "Make of a wrong one in a full room", e, api.ErrForm)
	_, e = r.Make(own(1), whole("0"))
	want(t, "Make in a full room", e, api.ErrFull)
	_, e = r.Make(with(own(1), displaced(5, 0)), whole("0"))
	want(t, "Make of a displaced one in a full room", e, api.ErrFull)
}

func TestP11_1NoRoomNoArray(t *testing.T) {
	calls := func(r *Room, n int) map[string]func() api.Errno {
		return map[string]func() api.Errno{
			"Of":       func() api.Errno { _, e := r.Of(n); return e },
			"Adjust":   func() api.Errno { return r.Adjust(n, []int{-1}, -9, api.Form{}) },
			"Displace": func() api.Errno { return r.Displace(n, []int{-1}, 99, -1) },
			"Total":    func() api.Errno { _, e := r.Total(n); return e },
			"Length":   func() api.Errno { _, e := r.Length(n); return e },
			"Index":    func() api.Errno { _, e := r.Index(n, []int{9, 9, 9}); return e },
			"Where":    func() api.Errno { _, _, e := r.Where(n, -1); return e },
			"Get":      func() api.Errno { _, e := r.Get(n, -1); return e },
			"Set":      func() api.Errno { return r.Set(n, -1, api.Form{}) },
			"Contents": func() api.Errno { _, e := r.Contents(n); return e },
			"Form":     func() api.Errno { _, e := r.Form(n); return e },
			"SetFill":  func() api.Errno { return r.SetFill(n, -1) },
			"Push":     func() api.Errno { _, e := r.Push(n, api.Form{}, -1); return e },
			"Pop":      func() api.Errno { _, e := r.Pop(n); return e },
			"Boole":    func() api.Errno { return r.Boole(-1, n, 0, 0) },
			"Boole b":  func() api.Errno { return r.Boole(-1, 0, n, 0) },
			"Boole to": func() api.Errno { return r.Boole(-1, 0, 0, n) },
		}
	}
	for name, call := range calls(nil, 0) {
		want(t, name+" of no room", call(), api.ErrArg)
	}
	var none *Room
	_, e := none.Make(own(-1), api.Form{})
	want(t, "Make in no room", e, api.ErrArg)
	r := NewRoom()
	made(t, r, own(2), whole("0"))
	for _, n := range []int{-1, 1, 99} {
		for name, call := range calls(r, n) {
			want(t, name, call(), api.ErrNone)
		}
	}
}

func TestP11_1Adjust(t *testing.T) {
	r := NewRoom()
	stiff := made(t, r, with(own(2), rigid), whole("0"))
	plain := made(t, r, own(2, 3), whole("0"))
	stack := made(t, r, with(own(4), filled(2)), whole("0"))
	bit := made(t, r, with(own(4), bitty), whole("1"))
	shown := made(t, r, own(6), whole("0"))
	made(t, r, with(own(2), displaced(shown, 3)), api.Form{})
	wrong := api.Form{}
	for i, x := range []struct {
		a       int
		dims    []int
		fill    int
		initial api.Form
		e       api.Errno
	}{
		{stiff, []int{-1}, -9, wrong, api.ErrArg}, {plain, make([]int, 8), -9, wrong, api.ErrSize}, {plain, []int{-1}, -9, wrong, api.ErrRange}, {plain, []int{2000, 2000, 2}, -9, wrong, api.ErrLarge},
		{plain, []int{6}, -9, wrong, ErrRank}, {plain, nil, -9, wrong, ErrRank}, {plain, []int{3, 2}, -9, wrong, ErrFill}, {plain, []int{3, 2}, 0, wrong, ErrFill}, {stack, []int{4}, -1, wrong, ErrFill},
		{stack, []int{4}, -3, wrong, api.ErrRange}, {stack, []int{4}, 5, wrong, api.ErrRange}, {stack, []int{1}, -2, wrong, api.ErrRange}, {stack, []int{4}, -2, wrong, api.ErrForm}, {plain, []int{3, 2}, -1, label(), api.ErrForm},
		{bit, []int{2}, -2, whole("2"), ErrBits}, {shown, []int{4}, -2, wrong, api.ErrForm}, {shown, []int{4}, -2, whole("0"), api.ErrSize}, {shown, []int{5}, -1, whole("0"), api.OK}, {stack, []int{1}, 1, whole("0"), api.OK}, {stack, []int{0}, 0, whole("0"), api.OK},
	} {
		before, _ := r.Of(x.a)
		contents := texts(t, r, x.a)
		e := r.Adjust(x.a, x.dims, x.fill, x.initial)
		want(t, "Adjust "+string(rune('0'+i)), e, x.e)
		if after, _ := r.Of(x.a); e != api.OK && (!sameArray(before, after) || texts(t, r, x.a) != contents) {
			t.Errorf("Adjust %d with an error changed %v to %v", i, before, after)
		}
	}
}

// The elements stay by their subscripts.
func TestP11_1AdjustElements(t *testing.T) {
	for _, x := range []struct {
		from, to []int
		want     string
	}{
		{[]int{2, 3}, []int{3, 2}, "0 1 3 4 x x"}, {[]int{2, 3}, []int{2, 3}, "0 1 2 3 4 5"}, {[]int{2, 3}, []int{1, 5}, "0 1 2 x x"}, {[]int{2, 3}, []int{0, 5}, ""}, {[]int{4}, []int{6}, "0 1 2 3 x x"}, {[]int{4}, []int{2}, "0 1"}, {nil, nil, "0"},
		{[]int{2, 2, 2}, []int{2, 1, 3}, "0 1 x 4 5 x"}, {[]int{0}, []int{2}, "x x"},
	} {
		r := NewRoom()
		a := made(t, r, own(x.from...), whole("9"))
		fill(t, r, a)
		want(t, "Adjust", r.Adjust(a, x.to, -2, leaf(api.FormString, "x")), api.OK)
		if got := texts(t, r, a); got != x.want {
			t.Errorf("Adjust of %v to %v: %s, not %s", x.from, x.to, got, x.want)
		}
		if of, _ := r.Of(a); !sameArray(of, own(x.to...)) {
			t.Errorf("Of behind Adjust to %v: %v", x.to, of)
		}
	}
}

func TestP11_1Displace(t *testing.T) {
	r := NewRoom()
	stiff := made(t, r, with(own(2), rigid), whole("0"))
	plain := made(t, r, own(2, 3), whole("0"))
	stack := made(t, r, with(own(4), filled(2)), whole("0"))
	bit := made(t, r, with(own(9), bitty), whole("1"))
	first := made(t, r, own(6), whole("0"))
	second := made(t, r, with(own(4), displaced(first, 2)), api.Form{})
	third := made(t, r, with(own(2), displaced(second, 1)), api.Form{})
	for i, x := range []struct {
		a      int
		dims   []int
		target int
		offset int
		e      api.Errno
	}{
		{stiff, []int{-1}, 99, -1, api.ErrArg}, {plain, make([]int, 8), 99, -1, api.ErrSize}, {plain, []int{2001}, 99, -1, api.ErrRange}, {plain, []int{2000, 2}, 99, -1, api.ErrLarge}, {plain, []int{6}, 99, -1, ErrRank},
		{plain, []int{1, 1}, 99, -1, api.ErrNone}, {plain, []int{1, 1}, -1, -1, api.ErrNone}, {plain, []int{1, 1}, plain, -1, api.ErrOrder}, {first, []int{1}, second, -1, api.ErrOrder}, {first, []int{1}, third, -1, api.ErrOrder}, {second, []int{1}, third, 0, api.ErrOrder},
		{plain, []int{1, 1}, bit, -1, ErrBits}, {bit, []int{1}, plain, -1, ErrBits}, {plain, []int{1, 1}, first, -1, api.ErrRange}, {plain, []int{2, 3}, first, 1, api.ErrRange}, {stack, []int{1}, first, 0, api.ErrRange},
		{second, []int{2}, plain, 0, api.ErrSize}, {second, []int{3}, plain, 3, api.OK}, {stack, []int{2}, first, 4, api.OK}, {third, []int{2}, first, 0, api.OK}, {second, []int{0}, plain, 6, api.OK},
	} {
		before, _ := r.Of(x.a)
		e := r.Displace(x.a, x.dims, x.target, x.offset)
		want(t, "Displace "+string(rune('0'+i)), e, x.e)
		meant := before
		if x.e == api.OK {
			meant.Dims, meant.Target, meant.Offset = x.dims, x.target, x.offset
		}
		if after, _ := r.Of(x.a); !sameArray(after, meant) {
			t.Errorf("Of behind Displace %d: %v, not %v", i, after, meant)
		}
	}
}

func TestP11_1Elements(t *testing.T) {
	r := NewRoom()
	a := made(t, r, own(2, 3), whole("0"))
	fill(t, r, a)
	b := made(t, r, with(own(3), func(a *Array) { a.Target, a.Offset, a.Fill = 0, 2, 1 }), api.Form{})
	c := made(t, r, with(own(2), displaced(b, 1)), api.Form{})
	zero := made(t, r, own(), whole("7"))
	for i, x := range []struct{ n, got, want int }{{0, first(r.Total(a)), 6}, {1, first(r.Total(zero)), 1}, {2, first(r.Length(b)), 1}, {3, first(r.Length(c)), 2}, {4, first(r.Index(a, []int{1, 2})), 5}, {5, first(r.Index(zero, nil)), 0}} {
		if x.got != x.want {
			t.Errorf("%d: %d, not %d", i, x.got, x.want)
		}
	}
	_, e := r.Length(a)
	want(t, "Length of two dimensions", e, ErrRank)
	_, e = r.Length(zero)
	want(t, "Length of none", e, ErrRank)
	for _, at := range [][]int{nil, {1}, {1, 1, 1}, {-1}} {
		_, e := r.Index(a, at)
		want(t, "Index", e, ErrRank)
	}
	for _, at := range [][]int{{-1, 0}, {2, 0}, {0, 3}, {0, -1}, {math.MaxInt, 0}} {
		_, e := r.Index(a, at)
		want(t, "Index", e, api.ErrRange)
	}
	if to, at, e := r.Where(c, 1); to != a || at != 4 || e != api.OK {
		t.Errorf("Where through two arrays: %d, %d, %v", to, at, e)
	}
	for _, index := range []int{-1, 3, math.MaxInt} {
		to, at, e := r.Where(b, index)
		_, f := r.Get(b, index)
		if to != 0 || at != 0 || e != api.ErrRange || f != api.ErrRange {
			t.Errorf("Where of no element: %d, %d, %v, %v", to, at, e, f)
		}
		want(t, "Set of no element", r.Set(b, index, api.Form{}), api.ErrRange)
	}
	want(t, "Set", r.Set(b, 2, api.Form{}), api.ErrForm) // behind the fill pointer, which plays no part
	want(t, "Set", r.Set(b, 2, label()), api.ErrForm)
	want(t, "Set", r.Set(c, 1, leaf(api.FormString, "x")), api.OK)
	if s := texts(t, r, a) + "; " + texts(t, r, b) + "; " + texts(t, r, c); s != "0 1 2 3 x 5; 2; 3 x" {
		t.Errorf("Contents: %s", s)
	}
	if x, e := r.Get(b, 2); e != api.OK || x.Text != "x" {
		t.Errorf("Get behind a fill pointer: %v, %v", x, e)
	}
}

// first lets the error of a call go.
func first(n int, _ api.Errno) int { return n }

func TestP11_1Subscripts(t *testing.T) {
	for _, x := range []struct {
		dims  []int
		index int
		want  []int
		e     api.Errno
	}{
		{[]int{2, 3}, 5, []int{1, 2}, api.OK}, {[]int{2, 3}, 0, []int{0, 0}, api.OK}, {nil, 0, nil, api.OK}, {[]int{7}, 6, []int{6}, api.OK}, {[]int{2, 3, 4}, 23, []int{1, 2, 3}, api.OK}, {[]int{1, 1, 1, 1, 1, 1, 2}, 1, []int{0, 0, 0, 0, 0, 0, 1}, api.OK},
		{make([]int, 8), -1, nil, api.ErrSize}, {[]int{2001}, -1, nil, api.ErrRange}, {[]int{-1}, -1, nil, api.ErrRange}, {[]int{2000, 2}, -1, nil, api.ErrLarge}, {[]int{2, 3}, -1, nil, api.ErrRange}, {[]int{2, 3}, 6, nil, api.ErrRange}, {nil, 1, nil, api.ErrRange}, {[]int{0, 3}, 0, nil, api.ErrRange},
	} {
		if at, e := Subscripts(x.dims, x.index); !slices.Equal(at, x.want) || e != x.e {
			t.Errorf("Subscripts(%v, %d) = %v, %v, not %v, %v", x.dims, x.index, at, e, x.want, x.e)
		}
	}
}

func TestP11_1Form(t *testing.T) {
	r := NewRoom()
	deep := whole("1")
	for range 99 {
		deep = api.Form{Kind: api.FormVector, Kids: []api.Form{deep}}
	}
	for _, x := range []struct {
		a       Array
		initial api.Form
		want    api.Form
		e       api.Errno
	}{
		{with(own(4), filled(2)), whole("5"), api.Form{Kind: api.FormVector, Kids: []api.Form{whole("5"), whole("5")}}, api.OK}, {own(0), whole("5"), leaf(api.FormVector, ""), api.OK},
		{with(own(3), bitty), whole("1"), leaf(api.FormBits, "111"), api.OK}, {with(with(own(3), bitty), filled(0)), whole("1"), leaf(api.FormBits, ""), api.OK}, {with(own(2000), bitty), whole("0"), leaf(api.FormBits, strings.Repeat("0", 2000)), api.OK},
		{with(own(2, 1), bitty), whole("1"), api.Form{Kind: api.FormArray, Text: "2 1", Kids: []api.Form{whole("1"), whole("1")}}, api.OK}, {own(), whole("5"), api.Form{Kind: api.FormArray, Kids: []api.Form{whole("5")}}, api.OK}, {own(0, 7, 2000), whole("5"), leaf(api.FormArray, "0 7 2000"), api.OK},
		{own(2000), whole("5"), api.Form{}, api.ErrSize}, {with(own(2000), filled(0)), whole("5"), leaf(api.FormVector, ""), api.OK}, {own(1), deep, api.Form{}, api.ErrSize}, {own(0), deep, leaf(api.FormVector, ""), api.OK}, {own(1000, 2), whole("5"), api.Form{}, api.ErrSize},
	} {
		f, e := r.Form(made(t, r, x.a, x.initial))
		if !forms.Equal(f, x.want) || e != x.e {
			t.Errorf("Form of %v: %v, %v", x.a, f, e)
		}
	}
	most := made(t, r, own(1999), whole("5"))
	if f, e := r.Form(most); len(f.Kids) != 1999 || e != api.OK {
		t.Errorf("Form of 1999 elements: %v", e)
	}
}

func TestP11_1Stack(t *testing.T) {
	r := NewRoom()
	a := made(t, r, with(own(2), filled(0)), whole("0"))
	stiff := made(t, r, with(with(own(1), filled(0)), rigid), whole("0"))
	none := made(t, r, own(2), whole("0"))
	square := made(t, r, own(2, 2), whole("0"))
	bit := made(t, r, with(with(own(1), filled(1)), bitty), whole("0"))
	push := func(n int, x api.Form, extend int) api.Errno {
		i, e := r.Push(n, x, extend)
		if e != api.OK && i != 0 {
			t.Errorf("Push with an error = %d", i)
		}
		return e
	}
	wrong := api.Form{}
	for _, n := range []int{none, square} {
		want(t, "Push without a fill pointer", push(n, wrong, 0), ErrFill)
		_, e := r.Pop(n)
		want(t, "Pop without a fill pointer", e, ErrFill)
		want(t, "SetFill without a fill pointer", r.SetFill(n, 9), ErrFill)
	}
	_, e := r.Pop(a)
	want(t, "Pop of an empty one", e, ErrFill)
	want(t, "Push", push(a, wrong, 0), api.ErrForm)
	want(t, "Push", push(a, whole("1"), 0), api.OK)
	want(t, "Push", push(a, whole("2"), -1), api.OK)
	want(t, "Push", push(a, wrong, 0), api.ErrForm)
	want(t, "Push", push(a, whole("3"), 0), api.ErrFull)
	want(t, "Push", push(a, whole("3"), -1), api.ErrRange)
	want(t, "Push", push(a, whole("3"), math.MinInt), api.ErrRange)
	want(t, "Push", push(a, whole("3"), math.MaxInt), api.ErrRange)
	want(t, "Push", push(a, whole("3"), 1999), api.ErrRange)
	want(t, "Push", push(a, whole("3"), 2), api.OK)
	if got := texts(t, r, a); got != "1 2 3" {
		t.Errorf("Contents behind Push: %s", got)
	}
	if x, _ := r.Get(a, 3); x.Text != "3" { // what is new by the adjusting is the element, too
		t.Errorf("the element behind the fill pointer is %v", x)
	}
	want(t, "Push", push(stiff, whole("1"), 0), api.OK)
	want(t, "Push", push(stiff, whole("1"), 1), api.ErrFull)
	want(t, "Push", push(bit, whole("2"), 1), ErrBits)
	want(t, "Push", push(bit, whole("1"), 1), api.OK)
	for _, n := range []int{-1, 5} {
		want(t, "SetFill", r.SetFill(a, n), api.ErrRange)
	}
	want(t, "SetFill", r.SetFill(a, 4), api.OK)
	want(t, "SetFill", r.SetFill(a, 0), api.OK)
	if n, e := r.Length(a); n != 0 || e != api.OK {
		t.Errorf("Length behind SetFill: %d, %v", n, e)
	}
}

func TestP11_1Boole(t *testing.T) {
	r := NewRoom()
	bits := with(own(2, 2), bitty)
	a, b, c := made(t, r, bits, whole("0")), made(t, r, bits, whole("0")), made(t, r, bits, whole("0"))
	for i, s := range []string{"0011", "0101"} {
		for k, x := range s {
			want(t, "Set", r.Set(i, k, whole(string(x))), api.OK)
		}
	}
	for op := range 16 {
		want(t, "Boole", r.Boole(op, a, b, c), api.OK)
		for i := range 4 { // the element i has the bits of i
			if x, _ := r.Get(c, i); x.Text != string(rune('0'+op>>i&1)) {
				t.Errorf("Boole %d of %02b = %v", op, i, x)
			}
		}
	}
	plain, long := made(t, r, own(2, 2), whole("0")), made(t, r, with(own(4), bitty), whole("0"))
	wide := made(t, r, with(own(4, 1), bitty), whole("0"))
	want(t, "Boole", r.Boole(-1, plain, long, a), api.ErrArg)
	want(t, "Boole", r.Boole(16, plain, long, a), api.ErrArg)
	for _, l := range [][3]int{{plain, a, long}, {a, plain, long}, {a, long, plain}} {
		want(t, "Boole", r.Boole(0, l[0], l[1], l[2]), ErrBits)
	}
	for _, l := range [][3]int{{long, a, b}, {a, long, b}, {a, b, long}, {a, b, wide}} {
		want(t, "Boole", r.Boole(0, l[0], l[1], l[2]), ErrRank)
	}
}

// Elements are combined one after the other, so that one that was set counts for those behind it.
func TestP11_1BooleDisplaced(t *testing.T) {
	r := NewRoom()
	a := made(t, r, with(own(5), bitty), whole("0"))
	head := made(t, r, with(with(own(4), bitty), displaced(a, 0)), api.Form{})
	tail := made(t, r, with(with(own(4), bitty), displaced(a, 1)), api.Form{})
	want(t, "Set", r.Set(a, 0, whole("1")), api.OK)
	want(t, "Boole", r.Boole(14, head, tail, tail), api.OK)
	if got := texts(t, r, a); got != "1 1 1 1 1" {
		t.Errorf("or along an array: %s", got)
	}
}

func TestP11_1Memory(t *testing.T) {
	r := NewRoom()
	dims, x := []int{2}, list(whole("1"))
	a := made(t, r, Array{Dims: dims, Fill: -1, Adjustable: true, Target: -1}, x)
	dims[0], x.Kids[0].Text = 9, "9"
	of, _ := r.Of(a)
	of.Dims[0] = 9
	for _, change := range []func() []api.Form{
		func() []api.Form { l, _ := r.Contents(a); return l },
		func() []api.Form { f, _ := r.Get(a, 1); return []api.Form{f} },
		func() []api.Form { f, _ := r.Form(a); return f.Kids },
	} {
		for _, f := range change() {
			f.Kids[0].Text = "9"
		}
	}
	if l, _ := r.Contents(a); len(l) != 2 || l[0].Kids[0].Text != "1" || l[1].Kids[0].Text != "1" {
		t.Errorf("a room shares its memory: %v", l)
	}
	x, y, dims := list(whole("2")), list(whole("3")), []int{3}
	want(t, "Set", r.Set(a, 0, x), api.OK)
	want(t, "Adjust", r.Adjust(a, dims, -2, y), api.OK)
	x.Kids[0].Text, y.Kids[0].Text, dims[0] = "9", "9", 9
	if l, _ := r.Contents(a); len(l) != 3 || l[0].Kids[0].Text != "2" || l[2].Kids[0].Text != "3" {
		t.Errorf("a room shares its memory: %v", l)
	}
}
