package heap_test

import (
	"slices"
	"strings"
	"testing"

	"commonform/api"
	"commonform/heap"
)

func fix(n int64) heap.Word {
	w, _ := heap.Fix(n)
	return w
}

func char(c rune) heap.Word {
	w, _ := heap.Char(c)
	return w
}

// empty returns a heap with the first object alone.
func empty(t *testing.T, limit, young int) *heap.Heap {
	t.Helper()
	h, e := heap.New(limit, young)
	if e != api.OK {
		t.Fatalf("New(%d, %d): %v", limit, young, e)
	}
	return h
}

// object returns a new object with these fields.
func object(t *testing.T, h *heap.Heap, kind int, fields ...heap.Word) heap.Word {
	t.Helper()
	w, e := h.New(kind, len(fields))
	if e != api.OK {
		t.Fatalf("New(%d, %d): %v", kind, len(fields), e)
	}
	for i, x := range fields {
		if e := h.Set(w, i, x); e != api.OK {
			t.Fatalf("Set(%d, %d, %d): %v", w, i, x, e)
		}
	}
	return w
}

func raw(t *testing.T, h *heap.Heap, kind int, bytes string) heap.Word {
	t.Helper()
	w, e := h.Raw(kind, bytes)
	if e != api.OK {
		t.Fatalf("Raw(%d, %q): %v", kind, bytes, e)
	}
	return w
}

func TestP15_2Fix(t *testing.T) {
	for _, x := range []struct {
		n int64
		w heap.Word
	}{
		{0, 0}, {5, 40}, {-1, 1<<64 - 8}, {1<<60 - 1, 1<<63 - 8}, {-1 << 60, 1 << 63}, {1 << 30, 1 << 33},
	} {
		w, e := heap.Fix(x.n)
		if n, ok := w.Fixnum(); w != x.w || e != api.OK || n != x.n || !ok {
			t.Errorf("Fix(%d) = %d, %v; its Fixnum is %d, %v", x.n, w, e, n, ok)
		}
	}
	for _, n := range []int64{1 << 60, -1<<60 - 1, 1<<63 - 1, -1 << 63} {
		if w, e := heap.Fix(n); w != 0 || e != api.ErrRange {
			t.Errorf("Fix(%d) = %d, %v", n, w, e)
		}
	}
}

func TestP15_2Char(t *testing.T) {
	for _, x := range []struct {
		c rune
		w heap.Word
	}{
		{0, 1}, {'a', 777}, {55295, 55295<<3 | 1}, {57344, 57344<<3 | 1}, {1114111, 1114111<<3 | 1},
	} {
		w, e := heap.Char(x.c)
		if c, ok := w.Character(); w != x.w || e != api.OK || c != x.c || !ok {
			t.Errorf("Char(%d) = %d, %v; its Character is %d, %v", x.c, w, e, c, ok)
		}
	}
	for _, c := range []rune{-1, 55296, 56000, 57343, 1114112, 1<<31 - 1, -1 << 31} {
		if w, e := heap.Char(c); w != 0 || e != api.ErrRange {
			t.Errorf("Char(%d) = %d, %v", c, w, e)
		}
	}
}

// A word is at most one of a fixnum, a character and a reference; all bits count.
func TestP15_2Tags(t *testing.T) {
	for _, x := range []struct {
		w                      heap.Word
		fixnum, character, ref bool
	}{
		{0, true, false, false}, {8, true, false, false}, {1<<64 - 8, true, false, false},
		{1, false, true, false}, {777, false, true, false}, {55296<<3 | 1, false, false, false}, {1114112<<3 | 1, false, false, false}, {1<<63 | 777, false, false, false}, {1<<35 | 777, false, false, false},
		{heap.Unbound, false, false, false}, {10, false, false, false},
		{heap.Nil, false, false, true}, {51, false, false, true}, {1<<64 - 5, false, false, true},
		{4, false, false, false}, {5, false, false, false}, {6, false, false, false}, {7, false, false, false}, {1<<64 - 1, false, false, false},
	} {
		n, fixnum := x.w.Fixnum()
		c, character := x.w.Character()
		if fixnum != x.fixnum || character != x.character || x.w.IsRef() != x.ref {
			t.Errorf("%d: %v, %v, %v", x.w, fixnum, character, x.w.IsRef())
		}
		if !fixnum && n != 0 || !character && c != 0 {
			t.Errorf("%d: the value %d, the code %d", x.w, n, c)
		}
	}
}

func TestP15_1Kinds(t *testing.T) {
	kinds := []int{heap.KindSymbol, heap.KindInt, heap.KindRatio, heap.KindSingle, heap.KindDouble, heap.KindComplex, 7, heap.KindString, heap.KindBits, heap.KindCons, heap.KindVector, heap.KindArray, heap.KindTable, heap.KindEntry, heap.KindClosure, heap.KindCode, heap.KindBuiltin, heap.KindClass, heap.KindInstance, heap.KindGeneric, heap.KindMethod, heap.KindWeak, heap.KindPackage, heap.KindBox, heap.KindEphemeron}
	for i, k := range kinds {
		if k != i+1 {
			t.Errorf("the kind %d is %d", i+1, k)
		}
	}
	if heap.KindLast != 31 || heap.ErrWord != 170 || heap.ErrRaw != 171 {
		t.Errorf("%d, %d, %d", heap.KindLast, heap.ErrWord, heap.ErrRaw)
	}
}

// Only right words may stand in fields and roots.
func TestP15_1RightWords(t *testing.T) {
	h := empty(t, 100, 100)
	c := object(t, h, heap.KindCons, fix(1), fix(2))
	s := raw(t, h, heap.KindString, "\x33\x00\x00\x00\x00\x00\x00\x00more") // its first word looks like a header, and like a reference
	r := h.Root(fix(0))
	for _, w := range []heap.Word{fix(-3), char('x'), heap.Unbound, heap.Nil, c, s} {
		if e := h.Set(c, 0, w); e != api.OK {
			t.Errorf("Set to %d: %v", w, e)
		}
		if x, e := h.Get(c, 0); x != w || e != api.OK {
			t.Errorf("Get = %d, %v; want %d", x, e, w)
		}
		if e := h.Put(r, w); e != api.OK {
			t.Errorf("Put of %d: %v", w, e)
		}
		if x, e := h.At(r); x != w || e != api.OK {
			t.Errorf("At = %d, %v; want %d", x, e, w)
		}
	}
	roots := h.Roots()
	for _, w := range []heap.Word{4, 5, 6, 7, 10, 55296<<3 | 1, 1<<63 | 777, 11, 59, 67, 83, 91, 107, 1<<20 | 3, 1<<63 | 3, 1<<64 - 5} {
		if e := h.Set(c, 0, w); e != heap.ErrWord {
			t.Errorf("Set to %d: %v", w, e)
		}
		if e := h.Put(r, w); e != heap.ErrWord {
			t.Errorf("Put of %d: %v", w, e)
		}
		if n := h.Root(w); n != -1 {
			t.Errorf("Root(%d) = %d", w, n)
		}
		if cells, fields, e := h.Cells([]heap.Word{c, w}); cells != nil || fields != nil || e != heap.ErrWord {
			t.Errorf("Cells(%d) = %v, %v, %v", w, cells, fields, e)
		}
		if h.Kind(w) != 0 || h.Len(w) != 0 || h.Place(w) != -1 {
			t.Errorf("%d: kind %d, length %d, place %d", w, h.Kind(w), h.Len(w), h.Place(w))
		}
		if x, e := h.Get(w, 0); x != 0 || e != heap.ErrWord {
			t.Errorf("Get(%d, 0) = %d, %v", w, x, e)
		}
		if e := h.Set(w, 0, 7); e != heap.ErrWord {
			t.Errorf("Set(%d, 0): %v", w, e)
		}
		if x, e := h.Bytes(w); x != "" || e != heap.ErrWord {
			t.Errorf("Bytes(%d) = %q, %v", w, x, e)
		}
	}
	if x, _ := h.Get(c, 0); x != s {
		t.Errorf("the field is %d", x)
	}
	if !slices.Equal(h.Roots(), roots) || h.Root(c) != r+1 {
		t.Errorf("Roots = %v", h.Roots())
	}
}

func TestP15_1NewHeap(t *testing.T) {
	for _, x := range []struct {
		limit, young int
		e            api.Errno
	}{
		{64, 1, api.OK}, {64, 64, api.OK}, {65536, 1, api.OK}, {65536, 65536, api.OK},
		{63, 1, api.ErrArg}, {65537, 1, api.ErrArg}, {-1, -1, api.ErrArg}, {64, 0, api.ErrArg}, {64, 65, api.ErrArg}, {64, -1, api.ErrArg}, {65536, 65537, api.ErrArg},
	} {
		h, e := heap.New(x.limit, x.young)
		if e != x.e || (h == nil) != (e != api.OK) {
			t.Errorf("New(%d, %d) = %v, %v", x.limit, x.young, h, e)
		}
		if e != api.OK {
			continue
		}
		if h.Used() != 6 || h.Old() != 6 || h.Limit() != x.limit || h.Full() || h.Moves() != 0 || len(h.Roots()) != 0 || len(h.Remembered()) != 0 || !slices.Equal(h.Objects(), []heap.Word{heap.Nil}) {
			t.Errorf("New(%d, %d): %d, %d, %d, %v", x.limit, x.young, h.Used(), h.Old(), h.Limit(), h.Objects())
		}
		if h.Kind(heap.Nil) != heap.KindSymbol || h.Len(heap.Nil) != 5 || h.Place(heap.Nil) != 0 {
			t.Errorf("NIL: %d, %d, %d", h.Kind(heap.Nil), h.Len(heap.Nil), h.Place(heap.Nil))
		}
		for i := range 5 {
			if w, e := h.Get(heap.Nil, i); w != heap.Nil || e != api.OK {
				t.Errorf("NIL has %d, %v", w, e)
			}
		}
	}
}

func TestP15_1Objects(t *testing.T) {
	h := empty(t, 65536, 1)
	for _, x := range []struct {
		kind, fields int
		e            api.Errno
	}{
		{1, 0, api.OK}, {31, 16384, api.OK}, {7, 1, api.OK}, {0, 1, api.ErrArg}, {32, 1, api.ErrArg}, {-1, 1, api.ErrArg}, {1, -1, api.ErrArg}, {1, 16385, api.ErrArg},
	} {
		used := h.Used()
		w, e := h.New(x.kind, x.fields)
		if e != x.e || e != api.OK && (w != 0 || h.Used() != used) {
			t.Errorf("New(%d, %d) = %d, %v", x.kind, x.fields, w, e)
		}
		if e == api.OK && (h.Kind(w) != x.kind || h.Len(w) != x.fields || h.Place(w) != used || h.Used() != used+1+x.fields) {
			t.Errorf("New(%d, %d): %d, %d, %d, %d", x.kind, x.fields, h.Kind(w), h.Len(w), h.Place(w), h.Used())
		}
		for i := range x.fields {
			if f, _ := h.Get(w, i); e == api.OK && f != heap.Nil {
				t.Fatalf("the field %d is %d", i, f)
			}
		}
	}
	for _, x := range []struct {
		kind int
		text string
		size int
		e    api.Errno
	}{
		{1, "", 1, api.OK}, {8, "a", 2, api.OK}, {8, "12345678", 2, api.OK}, {8, "123456789", 3, api.OK}, {31, "\x00\xff\x80\n\x03", 2, api.OK}, {8, strings.Repeat("xyz", 43690) + "\xfe\xff", 16385, api.OK},
		{0, "", 0, api.ErrArg}, {32, "", 0, api.ErrArg}, {-8, "", 0, api.ErrArg}, {8, strings.Repeat("x", 131073), 0, api.ErrArg},
	} {
		used := h.Used()
		w, e := h.Raw(x.kind, x.text)
		if e != x.e || h.Used() != used+x.size {
			t.Errorf("Raw(%d, %.20q): %v, %d words", x.kind, x.text, e, h.Used()-used)
		}
		if s, f := h.Bytes(w); e == api.OK && (s != x.text || f != api.OK || h.Kind(w) != x.kind || h.Len(w) != len(x.text)) {
			t.Errorf("Bytes = %.20q, %v; kind %d, length %d", s, f, h.Kind(w), h.Len(w))
		}
	}
}

// An object has fields or bytes, also if it has none of them.
func TestP15_1FieldsOrBytes(t *testing.T) {
	h := empty(t, 100, 100)
	none := object(t, h, heap.KindVector)
	two := object(t, h, heap.KindCons, fix(1), fix(2))
	blank, text := raw(t, h, heap.KindString, ""), raw(t, h, heap.KindString, "abc")
	for _, x := range []struct {
		w heap.Word
		i int
		e api.Errno
	}{
		{none, 0, api.ErrRange}, {none, -1, api.ErrRange}, {two, 0, api.OK}, {two, 1, api.OK}, {two, 2, api.ErrRange}, {two, -1, api.ErrRange}, {two, 1 << 40, api.ErrRange},
		{blank, 0, heap.ErrRaw}, {text, 0, heap.ErrRaw}, {text, -1, heap.ErrRaw}, {fix(1), 0, heap.ErrWord}, {text + 8, 0, heap.ErrWord},
	} {
		if _, e := h.Get(x.w, x.i); e != x.e {
			t.Errorf("Get(%d, %d): %v, not %v", x.w, x.i, e, x.e)
		}
		if e := h.Set(x.w, x.i, fix(9)); e != x.e {
			t.Errorf("Set(%d, %d): %v, not %v", x.w, x.i, e, x.e)
		}
		if e := h.Set(x.w, x.i, 7); e != x.e && (x.e != api.OK || e != heap.ErrWord) {
			t.Errorf("Set(%d, %d) to a bad word: %v", x.w, x.i, e)
		}
	}
	for _, x := range []struct {
		w heap.Word
		s string
		e api.Errno
	}{{none, "", heap.ErrRaw}, {two, "", heap.ErrRaw}, {blank, "", api.OK}, {text, "abc", api.OK}, {0, "", heap.ErrWord}} {
		if s, e := h.Bytes(x.w); s != x.s || e != x.e {
			t.Errorf("Bytes(%d) = %q, %v", x.w, s, e)
		}
	}
}

// The limit counts the words of all objects; an error takes none.
func TestP15_1Room(t *testing.T) {
	h := empty(t, 64, 57)
	if _, e := h.New(heap.KindVector, 58); e != api.ErrWords {
		t.Errorf("New of 59 words: %v", e)
	}
	if _, e := h.Raw(heap.KindString, strings.Repeat("x", 457)); e != api.ErrWords {
		t.Errorf("Raw of 59 words: %v", e)
	}
	v := object(t, h, heap.KindVector, make([]heap.Word, 56)...)
	if h.Used() != 63 || h.Full() {
		t.Errorf("Used %d, Full %v", h.Used(), h.Full())
	}
	if _, e := h.New(heap.KindVector, 1); e != api.ErrWords {
		t.Errorf("New of 2 words: %v", e)
	}
	if _, e := h.Raw(heap.KindString, "x"); e != api.ErrWords {
		t.Errorf("Raw of 2 words: %v", e)
	}
	if _, e := h.Lay([]heap.Cell{{Kind: 1}, {Kind: 1}}, nil); e != api.ErrWords || h.Used() != 63 {
		t.Errorf("Lay of 2 words: %v, Used %d", e, h.Used())
	}
	if w := raw(t, h, heap.KindString, ""); h.Place(w) != 63 || h.Used() != 64 || !h.Full() || h.Place(w+8) != -1 {
		t.Errorf("the last word: place %d, Used %d, Full %v", h.Place(w), h.Used(), h.Full())
	}
	if e := h.Keep([]heap.Word{v}, nil); e != api.OK || h.Full() || h.Old() != 63 {
		t.Errorf("Keep: %v, Full %v, Old %d", e, h.Full(), h.Old())
	}
}

// No word inside of an object is the place of one, wherever the object lies.
func TestP15_1Inside(t *testing.T) {
	for n := range 200 {
		h := empty(t, 500, 500)
		object(t, h, heap.KindVector, make([]heap.Word, n)...)
		w := raw(t, h, heap.KindString, strings.Repeat("\x2d", 8*(n%70)))
		for place := 1; place < h.Used()+2; place++ {
			x := heap.Word(place)<<3 | 3
			if want := place == 6 || x == w; (h.Place(x) == place) != want || (h.Kind(x) > 0) != want {
				t.Fatalf("%d fields: the place %d", n, place)
			}
		}
	}
}

func TestP15_1Roots(t *testing.T) {
	h := empty(t, 100, 100)
	c := object(t, h, heap.KindBox, fix(1))
	for i := range 4 {
		if n := h.Root(c); n != i {
			t.Errorf("Root = %d; want %d", n, i)
		}
	}
	if h.Drop(1) != api.OK || h.Drop(3) != api.OK || !slices.Equal(h.Roots(), []int{0, 2}) {
		t.Errorf("Roots = %v", h.Roots())
	}
	for _, n := range []int{1, 3, 4, -1, 1 << 40} {
		if w, e := h.At(n); w != 0 || e != api.ErrNone {
			t.Errorf("At(%d) = %d, %v", n, w, e)
		}
		if e := h.Put(n, 7); e != api.ErrNone {
			t.Errorf("Put(%d): %v", n, e)
		}
		if e := h.Drop(n); e != api.ErrNone {
			t.Errorf("Drop(%d): %v", n, e)
		}
	}
	if n := h.Root(heap.Unbound); n != 4 {
		t.Errorf("Root = %d; a number is used once", n)
	}
	if w, e := h.At(4); w != heap.Unbound || e != api.OK {
		t.Errorf("At(4) = %d, %v", w, e)
	}
	l := h.Roots()
	l[0] = 9
	if !slices.Equal(h.Roots(), []int{0, 2, 4}) {
		t.Error("a result shares memory with the heap")
	}
}

func TestP15_1Keep(t *testing.T) {
	h := empty(t, 100, 100)
	a := object(t, h, heap.KindBox, fix(1))
	b := object(t, h, heap.KindCons, a, heap.Nil)
	s := raw(t, h, heap.KindString, "some bytes")
	gone := object(t, h, heap.KindCons, b, s)
	h.Set(heap.Nil, 2, gone)
	h.Set(heap.Nil, 3, s)
	h.Set(a, 0, gone)
	r, q := h.Root(gone), h.Root(b)
	before := h.Used()
	for _, x := range []struct {
		old, young []heap.Word
		e          api.Errno
	}{
		{[]heap.Word{a, a, fix(1)}, nil, heap.ErrWord}, {[]heap.Word{a, a}, []heap.Word{heap.Unbound}, heap.ErrWord}, {[]heap.Word{a + 8}, nil, heap.ErrWord}, {nil, []heap.Word{7}, heap.ErrWord},
		{[]heap.Word{a, b, a}, nil, api.ErrTwice}, {[]heap.Word{a}, []heap.Word{s, a}, api.ErrTwice}, {[]heap.Word{heap.Nil}, nil, api.ErrTwice}, {nil, []heap.Word{heap.Nil}, api.ErrTwice}, {nil, []heap.Word{b, b}, api.ErrTwice},
	} {
		if e := h.Keep(x.old, x.young); e != x.e {
			t.Errorf("Keep(%v, %v): %v, not %v", x.old, x.young, e, x.e)
		}
	}
	if h.Used() != before || h.Moves() != 0 || h.Old() != 6 {
		t.Errorf("behind errors: Used %d, Moves %d, Old %d", h.Used(), h.Moves(), h.Old())
	}
	old, young := []heap.Word{s}, []heap.Word{b, a}
	if e := h.Keep(old, young); e != api.OK {
		t.Fatal(e)
	}
	if !slices.Equal(old, []heap.Word{s}) || !slices.Equal(young, []heap.Word{b, a}) {
		t.Error("Keep has changed an argument")
	}
	s, b, a = 6<<3|3, 9<<3|3, 12<<3|3
	if h.Old() != 9 || h.Used() != 14 || h.Moves() != 1 || !slices.Equal(h.Objects(), []heap.Word{heap.Nil, s, b, a}) {
		t.Fatalf("Old %d, Used %d, Moves %d, Objects %v", h.Old(), h.Used(), h.Moves(), h.Objects())
	}
	for _, x := range []struct {
		w    heap.Word
		i    int
		want heap.Word
	}{{heap.Nil, 1, heap.Nil}, {heap.Nil, 2, heap.Unbound}, {heap.Nil, 3, s}, {a, 0, heap.Unbound}, {b, 0, a}, {b, 1, heap.Nil}} {
		if w, e := h.Get(x.w, x.i); w != x.want || e != api.OK {
			t.Errorf("Get(%d, %d) = %d, %v; want %d", x.w, x.i, w, e, x.want)
		}
	}
	if x, e := h.Bytes(s); x != "some bytes" || e != api.OK {
		t.Errorf("Bytes = %q, %v", x, e)
	}
	if w, _ := h.At(r); w != heap.Unbound {
		t.Errorf("the root of an object that is gone has %d", w)
	}
	if w, _ := h.At(q); w != b {
		t.Errorf("the other root has %d", w)
	}
	if e := h.Keep(nil, nil); e != api.OK || h.Used() != 6 || h.Old() != 6 || h.Moves() != 2 {
		t.Errorf("Keep of nothing: %v, Used %d", e, h.Used())
	}
}

func TestP15_5Remembered(t *testing.T) {
	h := empty(t, 100, 100)
	a, b, s := object(t, h, heap.KindBox, heap.Nil), object(t, h, heap.KindCons, heap.Nil, heap.Nil), raw(t, h, heap.KindString, "\x8b\x00\x00\x00\x00\x00\x00\x00")
	h.Keep([]heap.Word{a, b, s}, nil)
	a, b = 51, 67
	y := object(t, h, heap.KindBox, a)
	if h.Place(y) != h.Old() || len(h.Remembered()) != 0 {
		t.Errorf("Remembered = %v", h.Remembered())
	}
	h.Set(b, 0, y)
	h.Set(b, 1, y)
	h.Set(heap.Nil, 4, y)
	h.Set(a, 0, b)
	if !slices.Equal(h.Remembered(), []heap.Word{heap.Nil, b}) {
		t.Errorf("Remembered = %v", h.Remembered())
	}
	h.Set(b, 0, fix(1))
	h.Set(b, 1, char('a'))
	h.Set(heap.Nil, 4, heap.Unbound)
	if len(h.Remembered()) != 0 {
		t.Errorf("Remembered = %v", h.Remembered())
	}
}

func TestP15_1NoHeap(t *testing.T) {
	var none *heap.Heap
	for i, e := range []api.Errno{
		second(none.New(1, 1)), second(none.Raw(1, "")), second(none.Get(heap.Nil, 0)), none.Set(heap.Nil, 0, 0), second(none.Bytes(heap.Nil)), second(none.At(0)), none.Put(0, 0), none.Drop(0), second(none.Lay(nil, nil)), none.Keep(nil, nil),
	} {
		if e != api.ErrArg {
			t.Errorf("function %d: %v", i, e)
		}
	}
	if _, _, e := none.Cells(nil); e != api.ErrArg {
		t.Errorf("Cells: %v", e)
	}
	if none.Place(heap.Nil) != -1 || none.Root(0) != -1 {
		t.Errorf("Place %d, Root %d", none.Place(heap.Nil), none.Root(0))
	}
	if none.Kind(heap.Nil)+none.Len(heap.Nil)+none.Used()+none.Limit()+none.Old()+none.Moves()+len(none.Objects())+len(none.Remembered())+len(none.Roots()) != 0 || none.Full() {
		t.Error("a nil heap has something")
	}
	if h, e := new(heap.Heap).New(1, 0); h != 0 || e != api.ErrArg || new(heap.Heap).Root(0) != -1 || new(heap.Heap).Keep(nil, nil) != api.ErrArg {
		t.Error("a heap that New did not make")
	}
}

func second[T any](_ T, e api.Errno) api.Errno { return e }
