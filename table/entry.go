package table

import (
	"iter"
	"slices"

	"commonform/api"
	"commonform/heap"
)

// Fields of a table.
const (
	fieldTest = iota
	fieldWeak
	fieldCount
	fieldFirst
	fieldGuide
	tableFields
)

// Fields of an entry: entries are a list in the order of the keys, and those of one bucket are a chain.
const (
	entryKey = iota
	entryValue
	entryNext
	entryChain
	entryFields
)

// table is a hash table of a heap.
type table struct {
	h    *heap.Heap
	ref  heap.Word
	test int
	weak bool
}

// find returns a hash table, or the first error of its word and of others.
func find(h *heap.Heap, ref heap.Word, words ...heap.Word) (table, api.Errno) {
	if e := checkWords(h, ref); e != api.OK {
		return table{}, e
	}
	t := table{h: h, ref: ref}
	if !t.read() {
		return table{}, ErrTable
	}
	if e := checkWords(h, words...); e != api.OK {
		return table{}, e
	}
	return t, api.OK
}

// read reads what the fields of a table say, and reports whether they are those of one.
func (t *table) read() bool {
	test, weak, count := t.number(t.ref, fieldTest), t.number(t.ref, fieldWeak), t.number(t.ref, fieldCount)
	if t.h.Kind(t.ref) != heap.KindTable || t.h.Len(t.ref) != tableFields || !isTest(test) || weak < 0 || weak > 1 || count < 0 {
		return false
	}
	t.test, t.weak = test, weak == 1
	first := t.get(t.ref, fieldFirst)
	return first == heap.Nil || t.isEntry(first)
}

// get returns a field; a word that is no reference where there is none.
func (t table) get(w heap.Word, field int) heap.Word {
	x, _ := t.h.Get(w, field)
	return x
}

func (t table) set(w heap.Word, field int, x heap.Word) { t.h.Set(w, field, x) }

// number returns a field that is a fixnum, -1 where there is none.
func (t table) number(w heap.Word, field int) int {
	x, e := t.h.Get(w, field)
	n, ok := x.Fixnum()
	if e != api.OK || !ok {
		return -1
	}
	return int(n)
}

func (t table) setNumber(w heap.Word, field, n int) {
	x, _ := heap.Fix(int64(n))
	t.set(w, field, x)
}

func (t table) kindOfEntries() int {
	if t.weak {
		return heap.KindEphemeron
	}
	return heap.KindEntry
}

func (t table) isEntry(w heap.Word) bool { return t.h.Kind(w) == t.kindOfEntries() }

// walk walks entries, each of which has the next one in a field. It ends where fields that others have changed lead round.
func (t table) walk(first heap.Word, next int) iter.Seq[heap.Word] {
	return func(yield func(heap.Word) bool) {
		entry := first
		for range t.h.Used() / entryFields {
			if !t.isEntry(entry) || !yield(entry) {
				return
			}
			entry = t.get(entry, next)
		}
	}
}

// entries walks the entries in the order of their keys.
func (t table) entries() iter.Seq[heap.Word] { return t.walk(t.get(t.ref, fieldFirst), entryNext) }

// living returns the entries whose keys are not gone.
func (t table) living() []heap.Word {
	gone := func(entry heap.Word) bool { return t.weak && t.get(entry, entryKey) == heap.Unbound }
	return slices.DeleteFunc(slices.Collect(t.entries()), gone)
}

// link makes a list of some entries.
func (t table) link(entries []heap.Word) {
	next := heap.Nil
	for _, entry := range slices.Backward(entries) {
		t.set(entry, entryNext, next)
		t.setNumber(entry, entryChain, 0)
		next = entry
	}
	t.set(t.ref, fieldFirst, next)
	t.setNumber(t.ref, fieldCount, len(entries))
}

// add puts a new key behind all others.
func (t table) add(key, value heap.Word) api.Errno {
	entry, e := t.h.New(t.kindOfEntries(), entryFields)
	if e != api.OK {
		return e
	}
	t.set(entry, entryKey, key)
	t.set(entry, entryValue, value)
	if last := t.last(); last != heap.Nil {
		t.set(last, entryNext, entry)
	} else {
		t.set(t.ref, fieldFirst, entry)
	}
	t.setNumber(t.ref, fieldCount, t.number(t.ref, fieldCount)+1)
	t.note(entry)
	return api.OK
}

// drop takes an entry away.
func (t table) drop(entry heap.Word) {
	ahead := t.ahead(entry)
	t.forget(entry, ahead)
	next := t.get(entry, entryNext)
	if ahead != heap.Nil {
		t.set(ahead, entryNext, next)
	} else {
		t.set(t.ref, fieldFirst, next)
	}
	t.setNumber(t.ref, fieldCount, t.number(t.ref, fieldCount)-1)
}

// ahead returns the entry ahead of another one, Nil if this is the first one; the last entry, if the other one is Nil.
func (t table) ahead(entry heap.Word) heap.Word {
	out := heap.Nil
	for x := range t.entries() {
		if x == entry {
			break
		}
		out = x
	}
	return out
}
