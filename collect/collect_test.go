package collect_test

import (
	"slices"
	"testing"

	"commonform/api"
	"commonform/collect"
	"commonform/heap"
)

func fix(n int64) heap.Word {
	w, _ := heap.Fix(n)
	return w
}

// collector returns a heap and a collector for it.
func collector(t *testing.T, limit, young int) (*heap.Heap, *collect.Collector) {
	t.Helper()
	h, e := heap.New(limit, young)
	if e != api.OK {
		t.Fatal(e)
	}
	c, e := collect.New(h)
	if e != api.OK || c.Heap() != h {
		t.Fatalf("New: %v", e)
	}
	return h, c
}

// object returns a new object with these fields.
func object(t *testing.T, h *heap.Heap, kind int, fields ...heap.Word) heap.Word {
	t.Helper()
	w, e := h.New(kind, len(fields))
	if e != api.OK {
		t.Fatal(e)
	}
	for i, x := range fields {
		h.Set(w, i, x)
	}
	return w
}

// at returns a field of what a root has.
func at(t *testing.T, h *heap.Heap, root, i int) heap.Word {
	t.Helper()
	w, _ := h.At(root)
	x, e := h.Get(w, i)
	if e != api.OK {
		t.Fatalf("the field %d of %d: %v", i, w, e)
	}
	return x
}

func (x want) check(t *testing.T, r collect.Report, e api.Errno) {
	t.Helper()
	if e != api.OK || r != collect.Report(x) {
		t.Fatalf("%+v, %v; want %+v", r, e, x)
	}
}

type want collect.Report

func major(t *testing.T, c *collect.Collector, x want) {
	t.Helper()
	r, e := c.Major()
	x.Major = true
	x.check(t, r, e)
}

func minor(t *testing.T, c *collect.Collector, x want) {
	t.Helper()
	r, e := c.Minor()
	x.check(t, r, e)
}

func TestP16_1None(t *testing.T) {
	if c, e := collect.New(nil); c != nil || e != api.ErrArg {
		t.Errorf("New(nil) = %v, %v", c, e)
	}
	for _, c := range []*collect.Collector{nil, {}} {
		if r, e := c.Minor(); r != (collect.Report{}) || e != api.ErrArg {
			t.Errorf("Minor = %v, %v", r, e)
		}
		if r, e := c.Major(); r != (collect.Report{}) || e != api.ErrArg {
			t.Errorf("Major = %v, %v", r, e)
		}
		if r, did, e := c.Step(); r != (collect.Report{}) || did || e != api.ErrArg {
			t.Errorf("Step = %v, %v, %v", r, did, e)
		}
		if e := c.Watch(heap.Nil, 1); e != api.ErrArg {
			t.Errorf("Watch: %v", e)
		}
		if c.Heap() != nil || len(c.Live())+len(c.Ended())+len(c.Watched()) != 0 {
			t.Error("no collector has something")
		}
	}
}

// What a root or NIL holds is kept, with all that is met from it; circles that nobody holds are not.
func TestP16_2Kept(t *testing.T) {
	h, c := collector(t, 200, 200)
	text, _ := h.Raw(heap.KindString, "kept")
	ring := object(t, h, heap.KindCons, fix(1), heap.Nil)
	h.Set(ring, 1, ring)
	kept := object(t, h, heap.KindVector, fix(1), text, heap.Unbound)
	h.Set(kept, 2, kept)
	plist := object(t, h, heap.KindBox, fix(2))
	h.Set(heap.Nil, 4, plist)
	root := h.Root(kept)
	h.Root(fix(3))
	if l := c.Live(); !slices.Equal(l, []heap.Word{heap.Nil, text, kept, plist}) {
		t.Errorf("Live = %v", l)
	}
	major(t, c, want{Before: 17, After: 14})
	if l := c.Live(); !slices.Equal(l, h.Objects()) || len(l) != 4 {
		t.Errorf("Live = %v, Objects = %v", l, h.Objects())
	}
	w, _ := h.At(root)
	if h.Place(w) != 8 || at(t, h, root, 2) != w || at(t, h, root, 0) != fix(1) {
		t.Errorf("the vector is %d", w)
	}
	if s, e := h.Bytes(at(t, h, root, 1)); s != "kept" || e != api.OK {
		t.Errorf("the string is %q, %v", s, e)
	}
	h.Drop(root)
	h.Set(heap.Nil, 4, heap.Nil)
	major(t, c, want{Before: 14, After: 6})
}

// An object is young, young with an age, and then old.
func TestP16_3Ages(t *testing.T) {
	h, c := collector(t, 200, 200)
	a := h.Root(object(t, h, heap.KindBox, fix(1)))
	minor(t, c, want{Before: 8, After: 8})
	if h.Old() != 6 {
		t.Errorf("Old = %d", h.Old())
	}
	b := h.Root(object(t, h, heap.KindBox, fix(2)))
	minor(t, c, want{Before: 10, After: 10, Promoted: 1})
	if h.Old() != 8 {
		t.Errorf("Old = %d", h.Old())
	}
	h.Drop(a)
	h.Root(object(t, h, heap.KindBox, fix(3)))
	minor(t, c, want{Before: 12, After: 12, Promoted: 1}) // what is old stays, though nobody holds it
	if w, _ := h.At(b); h.Place(w) != 8 || h.Old() != 10 {
		t.Errorf("the second object is at %d, Old %d", h.Place(w), h.Old())
	}
	major(t, c, want{Before: 12, After: 10, Promoted: 1})
	if w, _ := h.At(b); h.Place(w) != 6 || h.Old() != 10 {
		t.Errorf("the second object is at %d, Old %d", h.Place(w), h.Old())
	}
	major(t, c, want{Before: 10, After: 10})
}

// If somebody else moves objects, or another collector does, young ones have no age.
func TestP16_3Others(t *testing.T) {
	h, c := collector(t, 200, 200)
	object(t, h, heap.KindBox, fix(1))
	h.Root(9<<3 - 5)
	h.Root(object(t, h, heap.KindBox, fix(1)))
	h.Root(h.Objects()[1])
	minor(t, c, want{Before: 10, After: 10})
	h.Keep(nil, h.Objects()[1:])
	minor(t, c, want{Before: 10, After: 10})
	d, _ := collect.New(h)
	minor(t, d, want{Before: 10, After: 10})
	minor(t, c, want{Before: 10, After: 10})
	minor(t, c, want{Before: 10, After: 10, Promoted: 2})
}

// A minor collection keeps what old objects hold, also those that a major one would let go.
func TestP16_2Minor(t *testing.T) {
	h, c := collector(t, 200, 200)
	root := h.Root(object(t, h, heap.KindBox, heap.Nil))
	c.Minor()
	c.Minor()
	old, _ := h.At(root)
	h.Set(old, 0, object(t, h, heap.KindBox, fix(7)))
	object(t, h, heap.KindBox, fix(8))
	h.Drop(root)
	if l := c.Live(); !slices.Equal(l, []heap.Word{heap.Nil}) {
		t.Errorf("Live = %v", l)
	}
	minor(t, c, want{Before: 12, After: 10})
	if w, _ := h.Get(old, 0); h.Place(w) != 8 {
		t.Errorf("the old object has %d", w)
	}
	major(t, c, want{Before: 10, After: 6})
}

func TestP16_4Weak(t *testing.T) {
	h, c := collector(t, 200, 200)
	kept := object(t, h, heap.KindBox, fix(1))
	lost := object(t, h, heap.KindBox, fix(2))
	a := h.Root(object(t, h, heap.KindWeak, kept))
	b := h.Root(object(t, h, heap.KindWeak, lost, lost, kept))
	d := h.Root(object(t, h, heap.KindWeak, fix(3)))
	f := h.Root(object(t, h, heap.KindWeak, heap.Nil))
	h.Root(object(t, h, heap.KindWeak))
	bytes, _ := h.Raw(heap.KindWeak, "\x3b\x00\x00\x00\x00\x00\x00\x00")
	h.Root(bytes)
	object(t, h, heap.KindWeak, lost) // it is let go itself
	r := h.Root(kept)
	major(t, c, want{Before: 25, After: 21, Lost: 1})
	if w, _ := h.At(r); at(t, h, a, 0) != w || at(t, h, b, 2) != w {
		t.Errorf("the weak references have %d and %d", at(t, h, a, 0), at(t, h, b, 2))
	}
	if at(t, h, b, 0) != heap.Unbound || at(t, h, b, 1) != heap.Unbound || at(t, h, d, 0) != fix(3) || at(t, h, f, 0) != heap.Nil {
		t.Errorf("the weak references have %d, %d, %d", at(t, h, b, 0), at(t, h, d, 0), at(t, h, f, 0))
	}
	h.Drop(r)
	minor(t, c, want{Before: 21, After: 19, Promoted: 6, Lost: 1})
	if at(t, h, a, 0) != heap.Unbound {
		t.Errorf("the weak reference has %d", at(t, h, a, 0))
	}
}

func TestP16_4Ephemerons(t *testing.T) {
	h, c := collector(t, 300, 300)
	key, value := object(t, h, heap.KindBox, fix(1)), object(t, h, heap.KindBox, fix(2))
	lost := object(t, h, heap.KindBox, fix(3))
	only := object(t, h, heap.KindCons, lost, heap.Nil)
	third := object(t, h, heap.KindBox, fix(4))
	single := object(t, h, heap.KindBox, fix(5))
	a := h.Root(object(t, h, heap.KindEphemeron, key, value, third))
	b := h.Root(object(t, h, heap.KindEphemeron, lost, only))
	d := h.Root(object(t, h, heap.KindEphemeron, single))
	f := h.Root(object(t, h, heap.KindEphemeron, fix(6), object(t, h, heap.KindBox, fix(7))))
	g := h.Root(object(t, h, heap.KindEphemeron, heap.Unbound, object(t, h, heap.KindBox, fix(8))))
	i := h.Root(object(t, h, heap.KindEphemeron, heap.Nil, object(t, h, heap.KindBox, fix(9))))
	h.Root(object(t, h, heap.KindEphemeron))
	bytes, _ := h.Raw(heap.KindEphemeron, "bytes")
	h.Root(bytes)
	k := h.Root(key)
	before := h.Used()
	major(t, c, want{Before: before, After: before - 5, Lost: 1})
	for _, x := range []struct{ root, value int }{{a, 2}, {f, 7}, {g, 8}, {i, 9}} {
		if w, e := h.Get(at(t, h, x.root, 1), 0); w != fix(int64(x.value)) || e != api.OK {
			t.Errorf("the value of the root %d has %d, %v", x.root, w, e)
		}
	}
	if w, _ := h.Get(at(t, h, a, 2), 0); w != fix(4) {
		t.Errorf("the third field has %d", w)
	}
	if w, _ := h.Get(at(t, h, d, 0), 0); w != fix(5) {
		t.Errorf("an ephemeron with one field has %d", w)
	}
	if at(t, h, b, 0) != heap.Unbound || at(t, h, b, 1) != heap.Unbound {
		t.Errorf("the ephemeron has %d and %d", at(t, h, b, 0), at(t, h, b, 1))
	}
	v := h.Root(at(t, h, a, 1)) // a value lives on, but not in the ephemeron
	h.Drop(k)
	major(t, c, want{Before: before - 5, After: before - 7, Promoted: 14, Lost: 1})
	if at(t, h, a, 0) != heap.Unbound || at(t, h, a, 1) != heap.Unbound || at(t, h, v, 0) != fix(2) {
		t.Errorf("the ephemeron has %d and %d", at(t, h, a, 0), at(t, h, a, 1))
	}
}

// What a value holds is reached through it, whether the key is met ahead of the ephemeron or behind it.
func TestP16_4Values(t *testing.T) {
	for _, first := range []bool{false, true} {
		h, c := collector(t, 200, 200)
		key := object(t, h, heap.KindBox, fix(1))
		value := object(t, h, heap.KindCons, object(t, h, heap.KindBox, object(t, h, heap.KindBox, fix(2))), heap.Nil)
		pair := object(t, h, heap.KindEphemeron, key, value)
		if first {
			h.Root(key)
		}
		h.Root(pair)
		h.Root(object(t, h, heap.KindBox, key))
		major(t, c, want{Before: 20, After: 20})
	}
}

// A long chain of ephemerons, whose keys are each the value of the next one, whatever the order in which they stand.
func TestP16_4Chain(t *testing.T) {
	for _, turned := range []bool{false, true} {
		h, c := collector(t, 65536, 65536)
		const n = 9000
		keys := make([]heap.Word, n+1)
		for i := range keys {
			keys[i] = object(t, h, heap.KindBox, fix(int64(i)))
		}
		list := heap.Nil
		for i := range n {
			k := i
			if turned {
				k = n - 1 - i
			}
			list = object(t, h, heap.KindEphemeron, keys[k], keys[k+1], list)
		}
		h.Root(list)
		r := h.Root(keys[0])
		if l := c.Live(); len(l) != 2*n+2 {
			t.Errorf("%d live objects", len(l))
		}
		h.Drop(r)
		major(t, c, want{Before: 6 + 2*n + 2 + 4*n, After: 6 + 4*n, Lost: n})
	}
}

func TestP16_1Step(t *testing.T) {
	h, c := collector(t, 100, 20)
	object(t, h, heap.KindVector, make([]heap.Word, 19)...)
	if r, did, e := c.Step(); did || r != (collect.Report{}) || e != api.OK || h.Moves() != 0 {
		t.Errorf("a heap that is not full: %v, %v, %v", r, did, e)
	}
	h.Root(object(t, h, heap.KindBox, fix(1)))
	if r, did, e := c.Step(); !did || r != (collect.Report{Before: 28, After: 8}) || e != api.OK || h.Moves() != 1 {
		t.Errorf("a full heap: %+v, %v, %v", r, did, e)
	}
	root := h.Root(object(t, h, heap.KindVector, make([]heap.Word, 41)...))
	if r, did, e := c.Step(); !did || r != (collect.Report{Before: 50, After: 50, Promoted: 1}) || e != api.OK || h.Moves() != 2 {
		t.Errorf("half of the limit: %+v, %v, %v", r, did, e)
	}
	h.Root(object(t, h, heap.KindVector))
	if r, did, e := c.Step(); !did || r != (collect.Report{Major: true, Before: 51, After: 51, Promoted: 1}) || e != api.OK || h.Moves() != 4 {
		t.Errorf("more than half: %+v, %v, %v", r, did, e)
	}
	h.Drop(root)
	if _, did, _ := c.Step(); did || h.Used() != 51 {
		t.Errorf("Step did something, though nothing is young: Used %d", h.Used())
	}
}

func TestP16_5Watchers(t *testing.T) {
	h, c := collector(t, 200, 200)
	a, b := object(t, h, heap.KindBox, fix(1)), object(t, h, heap.KindBox, fix(2))
	text, _ := h.Raw(heap.KindString, "x")
	for _, x := range []struct {
		w  heap.Word
		id int
		e  api.Errno
	}{
		{b, 5, api.OK}, {a, 4, api.OK}, {text, 3, api.OK}, {b, 5, api.OK}, {b, -1, api.OK},
		{heap.Nil, 9, api.ErrArg}, {fix(1), 9, heap.ErrWord}, {heap.Unbound, 9, heap.ErrWord}, {7, 9, heap.ErrWord}, {a + 8, 9, heap.ErrWord}, {8000 + 3, 9, heap.ErrWord},
	} {
		if e := c.Watch(x.w, x.id); e != x.e {
			t.Errorf("Watch(%d, %d): %v, not %v", x.w, x.id, e, x.e)
		}
	}
	ids := c.Watched()
	if !slices.Equal(ids, []int{5, 4, 3, 5, -1}) || len(c.Ended()) != 0 {
		t.Errorf("Watched = %v", ids)
	}
	ids[0] = 100
	r, s := h.Root(b), h.Root(text)
	c.Minor()
	if ids := c.Watched(); !slices.Equal(ids, []int{5, 3, 5, -1}) {
		t.Errorf("Watched = %v", ids)
	}
	h.Drop(s)
	c.Minor()
	if ids := c.Watched(); !slices.Equal(ids, []int{5, 5, -1}) {
		t.Errorf("Watched = %v", ids)
	}
	w, _ := h.At(r)
	c.Watch(w, 6)
	h.Drop(r)
	c.Minor() // the box is old
	if ids := c.Watched(); !slices.Equal(ids, []int{5, 5, -1, 6}) {
		t.Errorf("Watched = %v", ids)
	}
	c.Major()
	if ids := c.Ended(); !slices.Equal(ids, []int{4, 3, 5, 5, -1, 6}) || len(c.Watched()) != 0 {
		t.Errorf("Ended = %v, Watched = %v", ids, c.Watched())
	}
	if ids := c.Ended(); len(ids) != 0 {
		t.Errorf("Ended again = %v", ids)
	}
}
