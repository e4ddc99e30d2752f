package table_test

import (
	"slices"
	"strconv"
	"testing"

	"commonform/api"
	"commonform/collect"
	"commonform/heap"
	"commonform/table"
)

func fresh(t *testing.T, h *heap.Heap, test int, weak bool) heap.Word {
	t.Helper()
	w, e := table.New(h, test, weak)
	if e != api.OK {
		t.Fatalf("New(%d, %v): %v", test, weak, e)
	}
	return w
}

func put(t *testing.T, h *heap.Heap, w, key, value heap.Word) {
	t.Helper()
	if e := table.Put(h, w, key, value); e != api.OK {
		t.Fatalf("Put(%d, %d): %v", key, value, e)
	}
}

// has checks what a table has for a key; nothing, if the value is 0, which is no value here.
func has(t *testing.T, h *heap.Heap, w, key, value heap.Word) {
	t.Helper()
	want, found := value, value != 0
	if !found {
		want = heap.Nil
	}
	if v, ok, e := table.Get(h, w, key); v != want || ok != found || e != api.OK {
		t.Fatalf("Get(%d) = %d, %v, %v; want %d", key, v, ok, e, value)
	}
}

// tells checks keys and values, which stand one behind the other.
func tells(t *testing.T, h *heap.Heap, w heap.Word, pairs ...heap.Word) {
	t.Helper()
	var keys, values []heap.Word
	for i, x := range pairs {
		if i%2 == 0 {
			keys = append(keys, x)
		} else {
			values = append(values, x)
		}
	}
	k, e := table.Keys(h, w)
	v, f := table.Values(h, w)
	n, g := table.Count(h, w)
	if !slices.Equal(k, keys) || !slices.Equal(v, values) || n != len(keys) || e != api.OK || f != api.OK || g != api.OK {
		t.Fatalf("Keys %v, Values %v, Count %d; want %v", k, v, n, pairs)
	}
}

func TestP17_3Examples(t *testing.T) {
	h := empty(t, 1000)
	w := fresh(t, h, table.EqualTest, false)
	x, y := raw(t, h, heap.KindString, "x"), raw(t, h, heap.KindString, "x")
	put(t, h, w, x, fix(1))
	put(t, h, w, y, fix(5))
	tells(t, h, w, x, fix(5))
	w = fresh(t, h, table.Eq, false)
	for _, n := range []int64{3, 1, 2} {
		put(t, h, w, fix(n), fix(n))
	}
	for _, gone := range []bool{true, false} {
		if ok, e := table.Remove(h, w, fix(3)); ok != gone || e != api.OK {
			t.Errorf("Remove = %v, %v", ok, e)
		}
	}
	put(t, h, w, fix(3), heap.Unbound)
	tells(t, h, w, fix(1), fix(1), fix(2), fix(2), fix(3), heap.Unbound)
	has(t, h, w, fix(3), heap.Unbound)
	has(t, h, w, fix(4), 0)
	if e := table.Clear(h, w); e != api.OK {
		t.Error(e)
	}
	tells(t, h, w)
	has(t, h, w, fix(1), 0)
	put(t, h, w, heap.Unbound, fix(7)) // a key as any other one
	put(t, h, w, fix(1), w)
	tells(t, h, w, heap.Unbound, fix(7), fix(1), w)
}

// By each test the keys that are the same are one.
func TestP17_1Tests(t *testing.T) {
	for test := table.Eq; test <= table.EqualpTest; test++ {
		h := empty(t, 2000)
		w := fresh(t, h, test, false)
		if got, weak, e := table.Test(h, w); got != test || weak || e != api.OK {
			t.Errorf("Test = %d, %v, %v", got, weak, e)
		}
		str := func(s string) heap.Word { return raw(t, h, heap.KindString, s) }
		for range 2 { // with a guide and without one
			for _, x := range []struct {
				a, b heap.Word
				test int
			}{
				{fix(1), fix(1), 0}, {fix(2), raw(t, h, heap.KindInt, "2"), 1}, {object(t, h, heap.KindComplex, fix(1), fix(2)), object(t, h, heap.KindComplex, fix(1), fix(2)), 1},
				{str("s"), str("s"), 2}, {object(t, h, heap.KindCons, fix(1), fix(1)), object(t, h, heap.KindCons, fix(1), fix(1)), 2},
				{str("t"), str("T"), 3}, {fix(3), raw(t, h, heap.KindSingle, "40400000"), 3}, {char('a'), char('A'), 3}, {str("v"), object(t, h, heap.KindVector, char('V')), 3}, {object(t, h, heap.KindVector, char('V')), str("v"), 3}, {object(t, h, heap.KindComplex, raw(t, h, heap.KindSingle, "40800000"), raw(t, h, heap.KindSingle, "00000000")), fix(4), 3},
				{object(t, h, heap.KindSymbol), object(t, h, heap.KindSymbol), 4},
			} {
				put(t, h, w, x.a, fix(100))
				want := heap.Word(0)
				if test >= x.test {
					want = fix(100)
				}
				has(t, h, w, x.a, fix(100))
				has(t, h, w, x.b, want)
				if ok, e := table.Remove(h, w, x.b); ok != (want != 0) || e != api.OK {
					t.Errorf("Remove by the test %d: %v, %v", test, ok, e)
				}
				table.Remove(h, w, x.a)
			}
			for n := range int64(20) {
				put(t, h, w, fix(1000+n), fix(n))
			}
		}
	}
}

func TestP17_1Errors(t *testing.T) {
	h := empty(t, 200)
	w := fresh(t, h, table.Eq, false)
	weak := fresh(t, h, table.EqualpTest, true)
	if test, isWeak, e := table.Test(h, weak); test != table.EqualpTest || !isWeak || e != api.OK {
		t.Errorf("Test = %d, %v, %v", test, isWeak, e)
	}
	cons := object(t, h, heap.KindCons, w, weak)
	bare := object(t, h, heap.KindTable, fix(0), fix(0), fix(0), heap.Nil)
	plain := object(t, h, heap.KindTable, heap.Nil, heap.Nil, heap.Nil, heap.Nil, heap.Nil)
	bytes := raw(t, h, heap.KindTable, "\x00\x00\x00\x00\x00")
	made := func(kind int, fields ...heap.Word) heap.Word { return object(t, h, kind, fields...) }
	for _, x := range []heap.Word{
		made(heap.KindVector, fix(0), fix(0), fix(0), heap.Nil, heap.Nil), made(heap.KindTable, fix(0), fix(0), fix(0), heap.Nil, heap.Nil, heap.Nil),
		made(heap.KindTable, fix(4), fix(0), fix(0), heap.Nil, heap.Nil), made(heap.KindTable, fix(0), fix(2), fix(0), heap.Nil, heap.Nil), made(heap.KindTable, fix(0), fix(-1), fix(0), heap.Nil, heap.Nil), made(heap.KindTable, fix(0), fix(0), fix(-1), heap.Nil, heap.Nil), made(heap.KindTable, fix(0), fix(0), fix(1), cons, heap.Nil), made(heap.KindTable, fix(0), fix(0), fix(1), heap.Unbound, heap.Nil),
	} {
		if _, _, e := table.Test(h, x); e != table.ErrTable || int(e) != 190 {
			t.Errorf("Test of an object that New did not make: %v", e)
		}
	}
	for _, x := range []struct {
		test int
		e    api.Errno
	}{{-1, api.ErrArg}, {4, api.ErrArg}, {0, api.OK}} {
		if _, e := table.New(h, x.test, true); e != x.e {
			t.Errorf("New(%d): %v", x.test, e)
		}
	}
	for i, x := range []struct {
		h             *heap.Heap
		t, key, value heap.Word
		e, f, g       api.Errno // for the table alone, with a key, with a value
	}{
		{nil, 7, 7, 7, api.ErrArg, api.ErrArg, api.ErrArg},
		{h, 7, 7, 7, heap.ErrWord, heap.ErrWord, heap.ErrWord}, {h, w + 8, fix(1), fix(1), heap.ErrWord, heap.ErrWord, heap.ErrWord},
		{h, fix(1), 7, 7, table.ErrTable, table.ErrTable, table.ErrTable}, {h, heap.Unbound, 7, 7, table.ErrTable, table.ErrTable, table.ErrTable}, {h, heap.Nil, fix(1), fix(1), table.ErrTable, table.ErrTable, table.ErrTable}, {h, cons, fix(1), fix(1), table.ErrTable, table.ErrTable, table.ErrTable},
		{h, bare, fix(1), fix(1), table.ErrTable, table.ErrTable, table.ErrTable}, {h, plain, fix(1), fix(1), table.ErrTable, table.ErrTable, table.ErrTable}, {h, bytes, fix(1), fix(1), table.ErrTable, table.ErrTable, table.ErrTable},
		{h, w, 7, 7, api.OK, heap.ErrWord, heap.ErrWord}, {h, w, w + 8, fix(1), api.OK, heap.ErrWord, heap.ErrWord}, {h, w, heap.Nil, 10, api.OK, api.OK, heap.ErrWord},
		{h, weak, heap.Unbound, fix(1), api.OK, api.OK, api.ErrArg}, {h, weak, heap.Unbound, 7, api.OK, api.OK, heap.ErrWord}, {h, w, heap.Unbound, fix(1), api.OK, api.OK, api.OK},
	} {
		test, isWeak, e1 := table.Test(x.h, x.t)
		n, e2 := table.Count(x.h, x.t)
		k, e3 := table.Keys(x.h, x.t)
		v, e4 := table.Values(x.h, x.t)
		e5, e6 := table.Cool(x.h, x.t), table.Clear(x.h, x.t)
		if l := []api.Errno{e1, e2, e3, e4, e5, e6}; !slices.Equal(l, slices.Repeat([]api.Errno{x.e}, 6)) {
			t.Errorf("line %d: %v, not %v", i, l, x.e)
		}
		if x.e != api.OK && (test != 0 || isWeak || n != 0 || k != nil || v != nil) {
			t.Errorf("line %d: results with an error", i)
		}
		value, ok, e := table.Get(x.h, x.t, x.key)
		gone, f := table.Remove(x.h, x.t, x.key)
		if e != x.f || f != x.f || ok || gone || value != 0 && e != api.OK || value != heap.Nil && e == api.OK {
			t.Errorf("line %d: Get %d, %v, %v; Remove %v, %v", i, value, ok, e, gone, f)
		}
		if e := table.Put(x.h, x.t, x.key, x.value); e != x.g {
			t.Errorf("line %d: Put %v, not %v", i, e, x.g)
		}
	}
	if _, e := table.New(nil, 0, false); e != api.ErrArg {
		t.Errorf("New of a nil heap: %v", e)
	}
	for h.Used() < 195 {
		object(t, h, heap.KindBox)
	}
	if w, e := table.New(h, table.Eq, false); w != 0 || e != api.ErrWords || h.Used() != 195 {
		t.Errorf("New without room: %d, %v", w, e)
	}
}

// A table that grows finds all keys, whatever was removed; the order stays.
func TestP17_3Many(t *testing.T) {
	for test := table.Eq; test <= table.EqualpTest; test++ {
		h := empty(t, 65536)
		w := fresh(t, h, test, false)
		var want []heap.Word
		keys := map[int64]heap.Word{}
		for n := range int64(2000) {
			keys[n] = fix(n * 7)
			if n%3 == 0 {
				keys[n] = raw(t, h, heap.KindString, "key "+strconv.Itoa(int(n)))
			}
			put(t, h, w, keys[n], fix(n+1))
			if n%5 == 0 {
				if ok, e := table.Remove(h, w, keys[n]); !ok || e != api.OK {
					t.Fatalf("Remove(%d) = %v, %v", n, ok, e)
				}
			} else {
				want = append(want, keys[n], fix(n+1))
			}
		}
		tells(t, h, w, want...)
		for n := range int64(2000) {
			if n%5 == 0 {
				has(t, h, w, keys[n], 0)
			} else {
				has(t, h, w, keys[n], fix(n+1))
			}
		}
		for n := int64(1999); n >= 0; n-- {
			table.Remove(h, w, keys[n])
		}
		tells(t, h, w)
		put(t, h, w, keys[4], fix(4))
		tells(t, h, w, keys[4], fix(4))
	}
}

// Without room nothing has changed; what is there is found all the same.
func TestP17_1NoRoom(t *testing.T) {
	for _, limit := range []int{64, 100, 150, 300, 1000, 5000} {
		h := empty(t, limit)
		w := fresh(t, h, table.EqlTest, false)
		var pairs []heap.Word
		for n := int64(0); ; n++ {
			used := h.Used()
			e := table.Put(h, w, fix(n), fix(n+1))
			if e == api.ErrWords {
				if h.Used() != used {
					t.Errorf("Put without room has taken %d words", h.Used()-used)
				}
				break
			}
			if e != api.OK {
				t.Fatal(e)
			}
			pairs = append(pairs, fix(n), fix(n+1))
		}
		if n := len(pairs) / 2; n < (limit-12)/8 {
			t.Errorf("only %d keys in %d words", n, limit)
		}
		tells(t, h, w, pairs...)
		put(t, h, w, fix(0), fix(100)) // no new key
		pairs[1] = fix(100)
		for i := 0; i < len(pairs); i += 2 {
			has(t, h, w, pairs[i], pairs[i+1])
		}
		has(t, h, w, fix(-1), 0)
		if e := table.Cool(h, w); e != api.OK {
			t.Error(e)
		}
		tells(t, h, w, pairs...)
		for i := 0; i < len(pairs); i += 2 {
			has(t, h, w, pairs[i], pairs[i+1])
		}
		for i := 0; i < len(pairs); i += 2 {
			if ok, e := table.Remove(h, w, pairs[i]); !ok || e != api.OK {
				t.Fatalf("Remove = %v, %v", ok, e)
			}
			tells(t, h, w, pairs[i+2:]...)
		}
	}
}

// What a table consists of: entries of one kind, which hold the keys and values; and how it is laid when it is cool.
func TestP17_1Cool(t *testing.T) {
	for _, weak := range []bool{false, true} {
		kind, mark := heap.KindEntry, fix(0)
		if weak {
			kind, mark = heap.KindEphemeron, fix(1)
		}
		for _, n := range []int{0, 1, 8, 9, 40} {
			h := empty(t, 5000)
			w := fresh(t, h, table.EqualTest, weak)
			var pairs []heap.Word
			for i := range n {
				k := object(t, h, heap.KindBox, fix(int64(i)))
				if i%3 == 0 {
					k = raw(t, h, heap.KindString, "key "+strconv.Itoa(i))
				}
				put(t, h, w, k, object(t, h, heap.KindBox, k))
				v, _, _ := table.Get(h, w, k)
				pairs = append(pairs, k, v)
			}
			cells, fields, _ := h.Cells(append(slices.Clone(pairs), w))
			entries := 0
			for _, c := range cells {
				if c.Kind == kind && len(c.Fields) == 4 && c.Fields[0].Object >= 0 {
					entries++
				}
			}
			last := cells[fields[2*n].Object]
			if entries != n || last.Kind != heap.KindTable || len(last.Fields) != 5 || last.Fields[0].Word != fix(2) || last.Fields[1].Word != mark || last.Fields[2].Word != fix(int64(n)) {
				t.Errorf("%d entries, the table %v", entries, last)
			}
			if e := table.Cool(h, w); e != api.OK {
				t.Fatal(e)
			}
			tells(t, h, w, pairs...)
			table.Test(h, w)
			if weak && table.Put(h, w, heap.Unbound, fix(1)) != api.ErrArg {
				t.Error("Unbound is a key of a weak table")
			}
			isCool(t, h, w, kind, mark, pairs)
			for i := 0; i < len(pairs); i += 2 {
				has(t, h, w, pairs[i], pairs[i+1])
			}
			table.Cool(h, w)
			isCool(t, h, w, kind, mark, pairs)
		}
	}
}

// isCool checks the fields of a table that is cool, and of its entries.
func isCool(t *testing.T, h *heap.Heap, w heap.Word, kind int, mark heap.Word, pairs []heap.Word) {
	t.Helper()
	fields, _ := fieldsOf(h, w)
	entry := fields[3]
	if !slices.Equal(fields, []heap.Word{fix(2), mark, fix(int64(len(pairs) / 2)), entry, heap.Nil}) {
		t.Fatalf("the table has %v", fields)
	}
	for i := 0; i < len(pairs); i += 2 {
		fields, _ := fieldsOf(h, entry)
		if h.Kind(entry) != kind || len(fields) != 4 || !slices.Equal(fields, []heap.Word{pairs[i], pairs[i+1], fields[2], 0}) {
			t.Fatalf("an entry of the kind %d has %v", h.Kind(entry), fields)
		}
		entry = fields[2]
	}
	if entry != heap.Nil {
		t.Fatalf("behind the last entry is %d", entry)
	}
}

// P17.3: a removed key leaves nothing that is met from the table.
func TestP17_3Gone(t *testing.T) {
	h := empty(t, 5000)
	w := fresh(t, h, table.Eq, false)
	var keys []heap.Word
	for range 40 {
		k := object(t, h, heap.KindClosure, fix(1))
		keys = append(keys, k)
		put(t, h, w, k, object(t, h, heap.KindCode, k))
	}
	met := func() int {
		n := 0
		cells, _, _ := h.Cells([]heap.Word{w})
		for _, c := range cells {
			if c.Kind == heap.KindClosure || c.Kind == heap.KindCode {
				n++
			}
		}
		return n
	}
	for i := range 30 {
		table.Remove(h, w, keys[(i*7)%30])
		if met() != 2*(39-i) {
			t.Fatalf("%d keys and values are met, of %d", met(), 2*(39-i))
		}
		has(t, h, w, keys[(i*7)%30], 0)
	}
	table.Clear(h, w)
	if met() != 0 {
		t.Errorf("%d keys and values are met", met())
	}
}

// P17.1: keys are found by what they are now, the first one of several that are the same.
func TestP17_1ChangedKeys(t *testing.T) {
	for test := table.EqualTest; test <= table.EqualpTest; test++ {
		for _, others := range []int{0, 20} {
			h := empty(t, 2000)
			w := fresh(t, h, test, false)
			a, b := object(t, h, heap.KindCons, fix(1), fix(2)), object(t, h, heap.KindCons, fix(3), fix(4))
			put(t, h, w, a, fix(10))
			put(t, h, w, b, fix(20))
			for n := range others {
				put(t, h, w, fix(int64(n)), fix(30))
			}
			ask := func(x, y int64) heap.Word { return object(t, h, heap.KindCons, fix(x), fix(y)) }
			h.Set(a, 0, fix(5))
			has(t, h, w, ask(5, 2), fix(10))
			has(t, h, w, ask(1, 2), 0)
			h.Set(a, 0, fix(3))
			h.Set(a, 1, fix(4))
			has(t, h, w, ask(3, 4), fix(10))
			has(t, h, w, b, fix(10))
			put(t, h, w, b, fix(11))
			if ok, _ := table.Remove(h, w, b); !ok {
				t.Error("Remove found nothing")
			}
			has(t, h, w, a, fix(20))
		}
	}
	h := empty(t, 2000)
	w := fresh(t, h, table.EqualpTest, false)
	v := object(t, h, heap.KindVector, char('x'))
	put(t, h, w, v, fix(1))
	for n := range int64(20) {
		put(t, h, w, raw(t, h, heap.KindString, "key "+strconv.Itoa(int(n))), fix(n))
	}
	has(t, h, w, raw(t, h, heap.KindString, "y"), 0)
	h.Set(v, 0, char('y'))
	has(t, h, w, raw(t, h, heap.KindString, "Y"), fix(1))
}

// What was supposed of one key plays no part for the next one.
func TestP17_1OneByOne(t *testing.T) {
	h := empty(t, 2000)
	w := fresh(t, h, table.EqualTest, false)
	box := func(n int64) heap.Word {
		x := fix(n)
		for range 4 {
			x = object(t, h, heap.KindCons, x, heap.Nil)
		}
		return x
	}
	cons := func(a, d heap.Word) heap.Word { return object(t, h, heap.KindCons, a, d) }
	shared := box(2)
	put(t, h, w, cons(shared, cons(box(9), heap.Nil)), fix(1))
	put(t, h, w, cons(shared, cons(box(7), heap.Nil)), fix(2))
	has(t, h, w, cons(box(1), cons(box(7), heap.Nil)), 0)
	has(t, h, w, cons(box(2), cons(box(7), heap.Nil)), fix(2))
}

// If Keep lets keys go that a table holds, which is not weak, they are Unbound as any other key that is.
func TestP17_1LostKeys(t *testing.T) {
	h := empty(t, 2000)
	w := fresh(t, h, table.Eq, false)
	var kept []heap.Word
	for n := range int64(20) {
		k := object(t, h, heap.KindBox, fix(n))
		put(t, h, w, k, fix(n+1))
	}
	for _, x := range h.Objects()[1:] {
		if f, _ := h.Get(x, 0); h.Kind(x) != heap.KindBox || f == fix(7) {
			kept = append(kept, x)
		}
	}
	if e := h.Keep(kept, nil); e != api.OK {
		t.Fatal(e)
	}
	w = h.Objects()[1]
	if n, e := table.Count(h, w); n != 20 || e != api.OK {
		t.Errorf("Count = %d, %v", n, e)
	}
	has(t, h, w, heap.Unbound, fix(1))
	for n := range int64(19) {
		if ok, _ := table.Remove(h, w, heap.Unbound); !ok {
			t.Errorf("Remove found nothing at %d", n)
		}
		switch {
		case n == 18:
			has(t, h, w, heap.Unbound, 0)
		case n < 6:
			has(t, h, w, heap.Unbound, fix(n+2))
		default:
			has(t, h, w, heap.Unbound, fix(n+3))
		}
	}
	if k, e := table.Keys(h, w); len(k) != 1 || !k[0].IsRef() || e != api.OK {
		t.Errorf("Keys = %v, %v", k, e)
	}
}

// A copy that Lay has made is as good as the table, though its keys are at other places, cool or not.
func TestP17_4Copies(t *testing.T) {
	for _, cool := range []bool{false, true} {
		for n := 7; n < 40; n++ {
			h := empty(t, 2000)
			w := fresh(t, h, table.Eq, false)
			var keys []heap.Word
			for i := range n {
				k := object(t, h, heap.KindBox, fix(int64(i)))
				keys = append(keys, k)
				put(t, h, w, k, fix(int64(i+1)))
			}
			if cool {
				table.Cool(h, w)
			}
			cells, fields, _ := h.Cells(append([]heap.Word{w}, keys...))
			other := empty(t, 2000)
			for _, to := range []*heap.Heap{other, h} {
				l, e := to.Lay(cells, fields)
				if e != api.OK {
					t.Fatal(e)
				}
				for i, k := range l[1:] {
					has(t, to, l[0], k, fix(int64(i+1)))
				}
				put(t, to, l[0], fix(1), fix(1))
				has(t, to, l[0], fix(1), fix(1))
			}
			has(t, h, w, fix(1), 0)
		}
	}
}

func TestP17_5Weak(t *testing.T) {
	for test := table.Eq; test <= table.EqualpTest; test++ {
		for _, n := range []int64{4, 30} {
			h := empty(t, 5000)
			c, _ := collect.New(h)
			w := fresh(t, h, test, true)
			root := h.Root(w)
			for i := range n {
				k := raw(t, h, heap.KindString, "key "+strconv.Itoa(int(i)))
				put(t, h, w, k, object(t, h, heap.KindBox, k)) // which holds the key, if something holds it
				if i%2 == 0 {
					h.Root(k)
				}
				put(t, h, w, fix(i), fix(i+1))
			}
			if r, e := c.Major(); r.Lost != int(n/2) || e != api.OK {
				t.Fatalf("Major = %+v, %v", r, e)
			}
			w, _ = h.At(root)
			if v, ok, e := table.Get(h, w, heap.Unbound); v != heap.Nil || ok || e != api.OK {
				t.Errorf("Get of Unbound = %d, %v, %v", v, ok, e)
			}
			if ok, e := table.Remove(h, w, heap.Unbound); ok || e != api.OK {
				t.Errorf("Remove of Unbound = %v, %v", ok, e)
			}
			keys, _ := table.Keys(h, w)
			values, _ := table.Values(h, w)
			count, _ := table.Count(h, w)
			if len(keys) != int(n+n/2) || len(values) != len(keys) || count != len(keys) {
				t.Fatalf("%d keys, %d values, Count %d", len(keys), len(values), count)
			}
			at := 0
			for i := range n {
				if i%2 == 0 {
					if s, _ := h.Bytes(keys[at]); s != "key "+strconv.Itoa(int(i)) {
						t.Fatalf("the key %d is %q", at, s)
					}
					if k, _ := h.Get(values[at], 0); k != keys[at] {
						t.Fatalf("the value %d has %d", at, k)
					}
					has(t, h, w, keys[at], values[at])
					at++
				}
				if keys[at] != fix(i) || values[at] != fix(i+1) {
					t.Fatalf("the key %d is %d", at, keys[at])
				}
				has(t, h, w, keys[at], values[at])
				at++
			}
			put(t, h, w, heap.Nil, fix(5))
			if k, _ := table.Keys(h, w); !slices.Equal(k, append(keys, heap.Nil)) {
				t.Errorf("Keys = %v", k)
			}
			for _, r := range h.Roots() {
				if r != root {
					h.Drop(r)
				}
			}
			c.Major()
			w, _ = h.At(root)
			if e := table.Cool(h, w); e != api.OK {
				t.Fatal(e)
			}
			if k, _ := table.Keys(h, w); len(k) != int(n)+1 || slices.ContainsFunc(k, func(x heap.Word) bool { return x.IsRef() && x != heap.Nil }) {
				t.Errorf("Keys = %v", k)
			}
		}
	}
}

// P1: fields that others have changed end no call late, and none panics.
func TestP17_1ChangedFields(t *testing.T) {
	for _, weak := range []bool{false, true} {
		for field := range 5 {
			for _, n := range []int64{3, 30} {
				for what := range 5 {
					h := empty(t, 2000)
					w := fresh(t, h, table.EqualTest, weak)
					for i := range n {
						put(t, h, w, fix(i), fix(i))
					}
					first, _ := h.Get(w, 3)
					guide, _ := h.Get(w, 4)
					x := []heap.Word{first, w, fix(1), fix(1 << 59), guide}[what]
					for _, y := range h.Objects()[2:] {
						h.Set(y, field, x)
					}
					if what == 4 {
						h.Set(w, field, x)
					}
					for i := range n {
						table.Get(h, w, fix(i))
						table.Put(h, w, fix(i+n), fix(i))
						table.Remove(h, w, fix(i))
					}
					table.Keys(h, w)
					table.Count(h, w)
					table.Cool(h, w)
					table.Clear(h, w)
				}
			}
		}
	}
}
