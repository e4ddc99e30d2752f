package table_test

import (
	"math/rand/v2"
	"slices"
	"testing"

	"commonform/api"
	"commonform/collect"
	"commonform/heap"
	"commonform/table"
)

// run has a table, and the list of pairs that it should be. Keys and values are numbers of words, which weak references follow when objects are moved.
type run struct {
	h     *heap.Heap
	c     *collect.Collector
	test  int
	weak  bool
	table int   // a root
	refs  []int // roots of weak references
	holds []int // roots of the words themselves, -1 for those that are not held any more
	pairs [][2]int
}

func newRun(t *testing.T, r *rand.Rand, test int, weak bool) *run {
	h := empty(t, 8000)
	x := &run{h: h, test: test, weak: weak}
	x.c, _ = collect.New(h)
	words := universe(t, r, h, 40)
	for n := range int64(40) {
		words = append(words, fix(100+n))
	}
	for range 40 {
		words = append(words, object(t, h, heap.KindSymbol, fix(1)), raw(t, h, heap.KindString, string(rune('a'+r.IntN(26)))+"x"))
	}
	ref, e := table.New(h, test, weak)
	if e != api.OK {
		t.Fatal(e)
	}
	x.follow(t, ref, words)
	return x
}

// follow follows a table and words from now on.
func (x *run) follow(t *testing.T, ref heap.Word, words []heap.Word) {
	x.table = x.h.Root(ref)
	x.refs, x.holds = nil, nil
	for _, w := range words {
		x.refs = append(x.refs, x.h.Root(object(t, x.h, heap.KindWeak, w)))
		x.holds = append(x.holds, x.h.Root(w))
	}
}

func (x *run) ref() heap.Word {
	w, _ := x.h.At(x.table)
	return w
}

func (x *run) word(n int) heap.Word {
	ref, _ := x.h.At(x.refs[n])
	w, _ := x.h.Get(ref, 0)
	return w
}

// any returns the number of a word that is not gone.
func (x *run) any(r *rand.Rand) int {
	for {
		if n := r.IntN(len(x.refs)); x.holds[n] >= 0 {
			return n
		}
	}
}

// find returns the index of the first pair whose key is the same as a word, -1 if there is none.
func (x *run) find(t *testing.T, w heap.Word) int {
	if x.weak && w == heap.Unbound {
		return -1
	}
	return slices.IndexFunc(x.pairs, func(p [2]int) bool { return same(t, x.h, x.test, w, x.word(p[0])) })
}

// check compares all that the table tells with the pairs.
func (x *run) check(t *testing.T) {
	t.Helper()
	var keys, values []heap.Word
	for _, p := range x.pairs {
		keys, values = append(keys, x.word(p[0])), append(values, x.word(p[1]))
	}
	n, e := table.Count(x.h, x.ref())
	got, f := table.Keys(x.h, x.ref())
	others, g := table.Values(x.h, x.ref())
	if n != len(keys) || !slices.Equal(got, keys) || !slices.Equal(others, values) || e != api.OK || f != api.OK || g != api.OK {
		t.Fatalf("Count %d, Keys %v, Values %v; want %v, %v", n, got, others, keys, values)
	}
	if test, weak, e := table.Test(x.h, x.ref()); test != x.test || weak != x.weak || e != api.OK {
		t.Fatalf("Test = %d, %v, %v", test, weak, e)
	}
	if w, e := x.h.Get(x.ref(), 2); !x.weak && w != fix(int64(n)) || e != api.OK {
		t.Fatalf("the field for the number of keys has %d", w)
	}
}

func (x *run) get(t *testing.T, w heap.Word) {
	t.Helper()
	want, i := heap.Nil, x.find(t, w)
	if i >= 0 {
		want = x.word(x.pairs[i][1])
	}
	if v, ok, e := table.Get(x.h, x.ref(), w); v != want || ok != (i >= 0) || e != api.OK {
		t.Fatalf("Get(%d) = %d, %v, %v; want %d", w, v, ok, e, want)
	}
}

func (x *run) put(t *testing.T, key, value int) {
	t.Helper()
	w := x.word(key)
	i := x.find(t, w)
	want := api.OK
	switch {
	case x.weak && w == heap.Unbound:
		want = api.ErrArg
	case i >= 0:
		x.pairs[i][1] = value
	default:
		x.pairs = append(x.pairs, [2]int{key, value})
	}
	if e := table.Put(x.h, x.ref(), w, x.word(value)); e != want {
		t.Fatalf("Put(%d): %v, not %v", w, e, want)
	}
}

func (x *run) remove(t *testing.T, w heap.Word) {
	t.Helper()
	i := x.find(t, w)
	if ok, e := table.Remove(x.h, x.ref(), w); ok != (i >= 0) || e != api.OK {
		t.Fatalf("Remove(%d) = %v, %v", w, ok, e)
	}
	if i >= 0 {
		x.pairs = slices.Delete(x.pairs, i, i+1)
	}
}

// change does something with the table.
func (x *run) change(t *testing.T, r *rand.Rand) {
	t.Helper()
	switch n := r.IntN(40); {
	case n < 20:
		x.put(t, x.any(r), x.any(r))
	case n < 28:
		x.get(t, x.word(x.any(r)))
	case n < 34:
		x.remove(t, x.word(x.any(r)))
	case n == 34 && r.IntN(4) == 0:
		if e := table.Clear(x.h, x.ref()); e != api.OK {
			t.Fatal(e)
		}
		x.pairs = nil
	case n < 38: // keys may be changed, too
		x.h.Set(x.word(x.any(r)), r.IntN(2), x.word(x.any(r)))
	}
}

// move moves objects, or lays the table and all words in another heap.
func (x *run) move(t *testing.T, r *rand.Rand) {
	t.Helper()
	switch r.IntN(8) {
	case 0, 1:
		l := x.h.Objects()[1:]
		r.Shuffle(len(l), func(i, k int) { l[i], l[k] = l[k], l[i] })
		n := r.IntN(len(l) + 1)
		if e := x.h.Keep(l[:n], l[n:]); e != api.OK {
			t.Fatal(e)
		}
	case 2:
		if e := table.Cool(x.h, x.ref()); e != api.OK {
			t.Fatal(e)
		}
	case 3:
		x.copy(t, r)
	case 4:
		x.release(r)
	default:
		x.collect(t, r.IntN(2) == 0)
	}
}

// copy goes on with a copy that Lay has made, in this heap or in another one.
func (x *run) copy(t *testing.T, r *rand.Rand) {
	t.Helper()
	if slices.Contains(x.holds, -1) {
		return
	}
	l := []heap.Word{x.ref()}
	for n := range x.refs {
		l = append(l, x.word(n))
	}
	if r.IntN(2) == 0 { // words ahead of the table
		l = append(l[1:], l[0])
	}
	cells, fields, e := x.h.Cells(l)
	if e != api.OK {
		t.Fatal(e)
	}
	first := slices.Index(l, x.ref())
	if r.IntN(2) == 0 || x.h.Used() > 3000 {
		moves := x.h.Moves()
		x.h = empty(t, 8000)
		for range moves {
			x.h.Keep(nil, nil)
		}
		x.c, _ = collect.New(x.h)
	}
	l, e = x.h.Lay(cells, fields)
	if e != api.OK {
		t.Fatal(e)
	}
	ref := l[first]
	x.follow(t, ref, slices.Delete(l, first, first+1))
}

// release holds some words no more.
func (x *run) release(r *rand.Rand) {
	for range 3 {
		if n := x.any(r); x.word(n).IsRef() && x.word(n) != heap.Nil {
			x.h.Drop(x.holds[n])
			x.holds[n] = -1
		}
	}
}

// collect collects; a weak table loses the keys that nobody else holds.
func (x *run) collect(t *testing.T, major bool) {
	t.Helper()
	var e api.Errno
	if major {
		_, e = x.c.Major()
	} else {
		_, e = x.c.Minor()
	}
	if e != api.OK {
		t.Fatal(e)
	}
	if x.weak {
		x.pairs = slices.DeleteFunc(x.pairs, func(p [2]int) bool { return x.word(p[0]) == heap.Unbound })
	}
}

// P17.1 and P17.3 to P17.5: whatever is done, a table is its list of pairs.
func TestP17_3Model(t *testing.T) {
	for seed := range uint64(160) {
		r := rand.New(rand.NewPCG(seed, 173))
		x := newRun(t, r, int(seed%4), seed%8 > 3)
		for range 250 {
			x.change(t, r)
			if r.IntN(10) == 0 {
				x.move(t, r)
			}
			x.check(t)
		}
		for n := range x.refs {
			if x.holds[n] >= 0 {
				x.get(t, x.word(n))
			}
		}
	}
}

// P17.3: putting all keys and values of a table in a new one gives one with the same Keys and Values.
func TestP17_3Again(t *testing.T) {
	for seed := range uint64(40) {
		r := rand.New(rand.NewPCG(seed, 174))
		x := newRun(t, r, int(seed%4), false)
		for range 120 {
			x.put(t, x.any(r), x.any(r))
		}
		keys, _ := table.Keys(x.h, x.ref())
		values, _ := table.Values(x.h, x.ref())
		other, _ := table.New(x.h, x.test, false)
		for i, k := range keys {
			if e := table.Put(x.h, other, k, values[i]); e != api.OK {
				t.Fatal(e)
			}
		}
		again, _ := table.Keys(x.h, other)
		same, _ := table.Values(x.h, other)
		if !slices.Equal(again, keys) || !slices.Equal(same, values) {
			t.Fatalf("%v, %v; want %v, %v", again, same, keys, values)
		}
	}
}
