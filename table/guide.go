package table

import (
	"iter"
	"slices"

	"commonform/heap"
)

// Fields of a guide, which a table of more than fewKeys keys has for looking them up.
const (
	guideMoves = iota // how often the heap had moved when keys were hashed
	guideLast         // the last entry
	guideSoft         // how many keys are soft
	guideBuckets
	guideFields
)

const (
	fewKeys      = 8
	leastBuckets = 16
	keysOfBucket = 2 // at most, on the average, where there is room for more buckets
)

// guide returns the guide of a table and its buckets, and whether objects are still where they were when keys were hashed. Buckets stand ahead of their guide; but they stand behind it in a copy that Lay made, since they are met from it. So a copy does not pass for the table itself.
func (t table) guide() (g, buckets heap.Word, ok bool) {
	g, buckets, ok = t.oldGuide()
	return g, buckets, ok && t.number(g, guideMoves) == t.h.Moves()
}

// oldGuide returns a guide that may be filled anew.
func (t table) oldGuide() (g, buckets heap.Word, ok bool) {
	g = t.get(t.ref, fieldGuide)
	if !isVector(t.h, g) || t.h.Len(g) != guideFields {
		return 0, 0, false
	}
	buckets = t.get(g, guideBuckets)
	return g, buckets, isVector(t.h, buckets) && t.h.Len(buckets) >= leastBuckets && t.h.Place(buckets) < t.h.Place(g)
}

// newGuide returns a guide for some keys, of which so many are hard: the one that there is, if it is large enough, or there is no room for a larger one.
func (t table) newGuide(keys, hard int) (g, buckets heap.Word, ok bool) {
	if keys <= fewKeys {
		return 0, 0, false
	}
	n := bucketsFor(hard)
	g, buckets, ok = t.oldGuide()
	if ok && t.h.Len(buckets) >= n || !t.hasRoom(n) {
		return g, buckets, ok
	}
	buckets, _ = t.h.New(heap.KindVector, n)
	g, _ = t.h.New(heap.KindVector, guideFields)
	t.set(g, guideBuckets, buckets)
	return g, buckets, true
}

func bucketsFor(keys int) int {
	n := leastBuckets
	for n*keysOfBucket < keys {
		n *= 2
	}
	return n
}

// hasRoom reports whether there is room for a guide with so many buckets, and for as much beside it: a guide that took the last words would leave none for keys.
func (t table) hasRoom(buckets int) bool {
	return 2*(1+buckets+1+guideFields) <= t.h.Limit()-t.h.Used()
}

// refresh lays a table anew, if keys may be gone from it, were hashed by places that are no more, or want a guide.
func (t table) refresh() {
	if _, _, ok := t.guide(); ok {
		return
	}
	if t.weak || t.get(t.ref, fieldGuide) != heap.Nil || t.wantsGuide() {
		t.lay()
	}
}

// wantsGuide reports whether a table that has no guide should get one.
func (t table) wantsGuide() bool {
	count := t.number(t.ref, fieldCount)
	return count > fewKeys && t.hasRoom(bucketsFor(count))
}

// lay makes the list of entries without keys that are gone, and a guide to them.
func (t table) lay() {
	entries := t.living()
	t.link(entries)
	hard := 0
	for _, entry := range entries {
		if !t.isSoft(t.get(entry, entryKey)) {
			hard++
		}
	}
	g, buckets, ok := t.newGuide(len(entries), hard)
	if !ok {
		t.set(t.ref, fieldGuide, heap.Nil)
		return
	}
	t.set(t.ref, fieldGuide, g)
	t.setNumber(g, guideMoves, t.h.Moves())
	t.setNumber(g, guideSoft, len(entries)-hard)
	t.set(g, guideLast, entries[len(entries)-1])
	for i := range t.h.Len(buckets) {
		t.set(buckets, i, heap.Nil)
	}
	put := t.putter(buckets)
	for _, entry := range slices.Backward(entries) { // so the first ones stand first in their chains
		put(entry)
	}
}

// putter returns a function that puts an entry with a hard key at the head of its bucket's chain.
func (t table) putter(buckets heap.Word) func(entry heap.Word) {
	return func(entry heap.Word) {
		key := t.get(entry, entryKey)
		if t.isSoft(key) {
			return
		}
		i := t.bucket(buckets, key)
		t.set(entry, entryChain, t.get(buckets, i))
		t.set(buckets, i, entry)
	}
}

// bucket returns the index of the bucket of a key.
func (t table) bucket(buckets, key heap.Word) int {
	hash := hasher{t.h, t.test, true}.word(key, hashParts)
	return int(hash % uint64(t.h.Len(buckets)))
}

// isSoft reports whether what a key is the same as depends on its fields. These may be changed at any time, so that no hash of them would do: soft keys are in no bucket.
func (t table) isSoft(key heap.Word) bool {
	switch t.h.Kind(key) {
	case heap.KindComplex:
		return t.test >= EqlTest
	case heap.KindCons:
		return t.test >= EqualTest
	case heap.KindVector, heap.KindArray:
		return t.test == EqualpTest
	}
	return false
}

// lookUp returns the entry of the first key that is the same as key, in a table that it refreshes ahead of this. All calls that look no key up leave a table as it is laid.
func (t table) lookUp(key heap.Word) (heap.Word, bool) {
	if t.weak && key == heap.Unbound {
		return 0, false
	}
	t.refresh()
	r := relation{h: t.h, test: t.test}
	for entry := range t.candidates(key) {
		if r.holds(key, t.get(entry, entryKey)) {
			return entry, true
		}
	}
	return 0, false
}

// candidates walks the entries whose keys may be the same as key: those of its bucket, or all. Only for Equalp a hard key may be the same as a soft one.
func (t table) candidates(key heap.Word) iter.Seq[heap.Word] {
	g, buckets, ok := t.guide()
	if !ok || t.isSoft(key) || t.test == EqualpTest && t.number(g, guideSoft) > 0 {
		return t.entries()
	}
	return t.walk(t.get(buckets, t.bucket(buckets, key)), entryChain)
}

// last returns the last entry, Nil if there is none.
func (t table) last() heap.Word {
	if g, _, ok := t.guide(); ok {
		return t.get(g, guideLast)
	}
	return t.ahead(heap.Nil)
}

// note tells the guide of a new entry, the last one, and makes a larger guide where it is wanted.
func (t table) note(entry heap.Word) {
	g, buckets, ok := t.guide()
	if !ok {
		if t.wantsGuide() {
			t.lay()
		}
		return
	}
	soft := t.number(g, guideSoft)
	if t.isSoft(t.get(entry, entryKey)) {
		soft++
	}
	n := bucketsFor(t.number(t.ref, fieldCount) - soft)
	if n > t.h.Len(buckets) && t.hasRoom(n) {
		t.lay()
		return
	}
	t.setNumber(g, guideSoft, soft)
	t.set(g, guideLast, entry)
	t.putter(buckets)(entry)
}

// forget takes an entry from the guide; ahead is the entry ahead of it, or Nil.
func (t table) forget(entry, ahead heap.Word) {
	g, buckets, ok := t.guide()
	if !ok {
		return
	}
	if t.get(g, guideLast) == entry {
		t.set(g, guideLast, ahead)
	}
	key := t.get(entry, entryKey)
	if t.isSoft(key) {
		t.setNumber(g, guideSoft, t.number(g, guideSoft)-1)
		return
	}
	chain := t.get(entry, entryChain)
	i := t.bucket(buckets, key)
	if t.get(buckets, i) == entry {
		t.set(buckets, i, chain)
		return
	}
	for x := range t.walk(t.get(buckets, i), entryChain) {
		if t.get(x, entryChain) == entry {
			t.set(x, entryChain, chain)
			return
		}
	}
}
