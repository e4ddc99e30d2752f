package heap_test

import (
	"reflect"
	"slices"
	"strings"
	"testing"

	"commonform/api"
	"commonform/heap"
)

func now(w heap.Word) heap.Field { return heap.Field{Word: w, Object: -1} }

func ref(i int) heap.Field { return heap.Field{Object: i} }

// alike compares cells, or fields; an empty list is none.
func alike(a, b []heap.Cell) bool {
	if len(a) != len(b) {
		return false
	}
	for i, x := range a {
		y := b[i]
		if x.Kind != y.Kind || x.Raw != y.Raw || x.Bytes != y.Bytes || !sameFields(x.Fields, y.Fields) {
			return false
		}
	}
	return true
}

func sameFields(a, b []heap.Field) bool {
	return len(a) == 0 && len(b) == 0 || reflect.DeepEqual(a, b)
}

func TestP15_1Cells(t *testing.T) {
	h := empty(t, 200, 200)
	s := raw(t, h, heap.KindString, "text")
	a := object(t, h, heap.KindCons, fix(1), heap.Nil)
	b := object(t, h, heap.KindVector, s, a, char('c'), a)
	h.Set(a, 1, b)
	none := object(t, h, heap.KindVector)
	blank := raw(t, h, heap.KindBits, "")
	h.Set(heap.Nil, 0, s) // what NIL has is not met
	for _, x := range []struct {
		words  []heap.Word
		cells  []heap.Cell
		fields []heap.Field
	}{
		{nil, nil, nil},
		{[]heap.Word{heap.Nil, fix(-1), heap.Unbound, char('x')}, nil, []heap.Field{ref(-2), now(fix(-1)), now(heap.Unbound), now(char('x'))}},
		{[]heap.Word{s, s}, []heap.Cell{{Kind: heap.KindString, Raw: true, Bytes: "text"}}, []heap.Field{ref(0), ref(0)}},
		{[]heap.Word{none, blank}, []heap.Cell{{Kind: heap.KindVector}, {Kind: heap.KindBits, Raw: true}}, []heap.Field{ref(0), ref(1)}},
		{[]heap.Word{a, s}, []heap.Cell{{Kind: heap.KindCons, Fields: []heap.Field{now(fix(1)), ref(1)}}, {Kind: heap.KindVector, Fields: []heap.Field{ref(2), ref(0), now(char('c')), ref(0)}}, {Kind: heap.KindString, Raw: true, Bytes: "text"}}, []heap.Field{ref(0), ref(2)}},
		{[]heap.Word{b}, []heap.Cell{{Kind: heap.KindVector, Fields: []heap.Field{ref(1), ref(2), now(char('c')), ref(2)}}, {Kind: heap.KindString, Raw: true, Bytes: "text"}, {Kind: heap.KindCons, Fields: []heap.Field{now(fix(1)), ref(0)}}}, []heap.Field{ref(0)}},
	} {
		cells, fields, e := h.Cells(x.words)
		if e != api.OK || !alike(cells, x.cells) || !sameFields(fields, x.fields) {
			t.Errorf("Cells(%v) = %v, %v, %v", x.words, cells, fields, e)
		}
	}
}

// What is met from a field comes ahead of the next field.
func TestP15_1CellsInDepth(t *testing.T) {
	h := empty(t, 200, 200)
	deep := object(t, h, heap.KindBox, fix(1))
	left := object(t, h, heap.KindBox, deep)
	right := object(t, h, heap.KindBox, deep)
	top := object(t, h, heap.KindCons, left, right)
	cells, _, _ := h.Cells([]heap.Word{top})
	want := []heap.Cell{{Kind: heap.KindCons, Fields: []heap.Field{ref(1), ref(3)}}, {Kind: heap.KindBox, Fields: []heap.Field{ref(2)}}, {Kind: heap.KindBox, Fields: []heap.Field{now(fix(1))}}, {Kind: heap.KindBox, Fields: []heap.Field{ref(2)}}}
	if !alike(cells, want) {
		t.Errorf("Cells = %v", cells)
	}
	long, _ := heap.New(65536, 1)
	w := heap.Nil
	for range 30000 {
		w = object(t, long, heap.KindBox, w)
	}
	if cells, _, e := long.Cells([]heap.Word{w}); e != api.OK || len(cells) != 30000 || cells[29999].Fields[0] != ref(-2) {
		t.Errorf("a long chain: %d cells, %v", len(cells), e)
	}
}

func TestP15_4Lay(t *testing.T) {
	cells := []heap.Cell{
		{Kind: heap.KindCons, Fields: []heap.Field{ref(1), ref(0)}},
		{Kind: heap.KindVector, Fields: []heap.Field{ref(2), ref(-2), now(fix(3)), now(heap.Unbound), now(char('a')), ref(1)}},
		{Kind: heap.KindDouble, Raw: true, Bytes: "0000000000000000"},
		{Kind: 31},
		{Kind: 7, Raw: true},
	}
	words := []heap.Field{ref(0), now(fix(9)), ref(3), ref(-2), ref(4), ref(0)}
	h := empty(t, 100, 100)
	first := object(t, h, heap.KindBox, fix(1))
	l, e := h.Lay(cells, words)
	if e != api.OK || len(l) != 6 {
		t.Fatalf("Lay = %v, %v", l, e)
	}
	places := []int{h.Place(l[0]), h.Place(l[2]), h.Place(l[4]), h.Used()}
	if want := []int{8, 8 + 3 + 7 + 3, 22, 23}; !reflect.DeepEqual(places, want) || l[1] != fix(9) || l[3] != heap.Nil || l[5] != l[0] || h.Old() != 6 {
		t.Errorf("places %v, words %v", places, l)
	}
	if x, _ := h.Get(first, 0); x != fix(1) {
		t.Errorf("another object has %d", x)
	}
	got, fields, e := h.Cells(l)
	if e != api.OK || !alike(got, cells) || !sameFields(fields, words) {
		t.Errorf("Cells of Lay: %v, %v, %v", got, fields, e)
	}
	again, e := h.Lay(got, fields)
	if e != api.OK || again[0] == l[0] {
		t.Fatalf("Lay = %v, %v", again, e)
	}
	got[1].Fields[2] = now(fix(4)) // the heap keeps nothing of it
	if got, fields, _ = h.Cells(again); !alike(got, cells) || !sameFields(fields, words) {
		t.Errorf("Cells of the other graph: %v, %v", got, fields)
	}
	h.Set(l[0], 0, heap.Nil)
	if got, _, _ = h.Cells(again); !alike(got, cells) {
		t.Error("both graphs share objects")
	}
}

func TestP15_1LayErrors(t *testing.T) {
	good := heap.Cell{Kind: heap.KindBox, Fields: []heap.Field{now(fix(1))}}
	box := func(f heap.Field) []heap.Cell {
		return []heap.Cell{good, {Kind: heap.KindBox, Fields: []heap.Field{now(fix(1)), f}}}
	}
	long := make([]heap.Field, 16385)
	for i := range long {
		long[i] = now(7)
	}
	for _, x := range []struct {
		cells []heap.Cell
		words []heap.Field
		e     api.Errno
	}{
		{slices.Repeat([]heap.Cell{{Kind: 1}}, 20001), []heap.Field{now(7)}, api.ErrArg},
		{[]heap.Cell{good, {}}, []heap.Field{now(7)}, api.ErrArg},
		{[]heap.Cell{good, {Kind: 32, Bytes: "x", Fields: []heap.Field{now(7)}}}, nil, api.ErrArg},
		{[]heap.Cell{{Kind: -1}}, nil, api.ErrArg},
		{[]heap.Cell{{Kind: 1, Fields: long, Bytes: "x"}}, nil, api.ErrArg},
		{[]heap.Cell{{Kind: 1, Raw: true, Fields: long}}, nil, heap.ErrRaw},
		{[]heap.Cell{{Kind: 1, Raw: true, Bytes: strings.Repeat("x", 131073), Fields: long}}, nil, api.ErrArg},
		{[]heap.Cell{{Kind: 1, Bytes: strings.Repeat("x", 131073)}}, nil, heap.ErrRaw},
		{[]heap.Cell{{Kind: 1, Raw: true, Bytes: "x", Fields: []heap.Field{now(7)}}, {}}, nil, heap.ErrRaw},
		{[]heap.Cell{{Kind: 1, Bytes: "x", Fields: []heap.Field{now(7)}}}, nil, heap.ErrRaw},
		{append(box(now(7)), heap.Cell{}), nil, heap.ErrWord},
		{box(now(heap.Nil)), nil, heap.ErrWord},
		{box(now(51)), nil, heap.ErrWord},
		{box(now(55296<<3 | 1)), nil, heap.ErrWord},
		{box(now(10)), nil, heap.ErrWord},
		{box(heap.Field{Word: 8, Object: 0}), nil, heap.ErrWord},
		{box(heap.Field{Word: heap.Nil, Object: -2}), nil, heap.ErrWord},
		{box(ref(2)), nil, heap.ErrWord},
		{box(ref(-3)), nil, heap.ErrWord},
		{box(ref(1)), nil, api.OK},
		{box(ref(-2)), []heap.Field{ref(0), ref(1), ref(-2), now(heap.Unbound)}, api.OK},
		{box(ref(0)), []heap.Field{ref(0), ref(2)}, heap.ErrWord},
		{box(ref(0)), []heap.Field{now(heap.Nil)}, heap.ErrWord},
		{nil, []heap.Field{ref(0)}, heap.ErrWord},
		{nil, []heap.Field{heap.Field{Word: 8, Object: -2}}, heap.ErrWord},
		{nil, []heap.Field{now(7)}, heap.ErrWord},
		{[]heap.Cell{{Kind: 1, Fields: make([]heap.Field, 100)}}, []heap.Field{now(7)}, heap.ErrWord},
		{[]heap.Cell{{Kind: 1, Fields: make([]heap.Field, 100)}}, nil, api.ErrWords},
		{[]heap.Cell{{Kind: 1, Raw: true, Bytes: strings.Repeat("x", 465)}}, nil, api.ErrWords},
		{[]heap.Cell{{Kind: 1, Raw: true, Bytes: strings.Repeat("x", 464)}}, nil, api.OK},
	} {
		h := empty(t, 65, 65)
		words, e := h.Lay(x.cells, x.words)
		if e != x.e || e != api.OK && (words != nil || h.Used() != 6) || len(words) != len(x.words) && e == api.OK {
			t.Errorf("Lay(%.200v, %v) = %v, %v, not %v", x.cells, x.words, words, e, x.e)
		}
	}
	h := empty(t, 65536, 1)
	if _, e := h.Lay([]heap.Cell{{Kind: 1, Raw: true, Bytes: strings.Repeat("x", 131072)}, {Kind: 31, Fields: make([]heap.Field, 16384)}}, nil); e != api.OK {
		t.Errorf("Lay of the largest objects: %v", e)
	}
	h = empty(t, 65536, 1)
	full := make([]heap.Cell, 20000)
	for i := range full {
		full[i] = heap.Cell{Kind: heap.KindBox, Fields: []heap.Field{ref(19999 - i)}}
	}
	if words, e := h.Lay(full, []heap.Field{ref(19999)}); e != api.OK || h.Used() != 40006 || h.Place(words[0]) != 40004 {
		t.Errorf("Lay of 20000 cells: %v, %v", words, e)
	}
}
