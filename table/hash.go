package table

import (
	"commonform/api"
	"commonform/heap"
	"commonform/number"
)

// How many parts of an object are hashed at most, and how many times fewer of each of them.
const (
	hashParts = 32
	hashFewer = 8
)

const (
	hashStart = 14695981039346656037
	hashPrime = 1099511628211
)

// hasher hashes words by a test.
type hasher struct {
	h      *heap.Heap
	test   int
	placed bool // whether objects that are the same as no others are hashed by their places
}

// Hash returns the hash of a word by a test.
func Hash(h *heap.Heap, test int, a heap.Word) (uint64, api.Errno) {
	if e := checkWords(h, a); e != api.OK {
		return 0, e
	}
	if !isTest(test) {
		return 0, api.ErrArg
	}
	return hasher{h, test, test <= EqlTest}.word(a, hashParts), api.OK
}

func isTest(test int) bool { return test >= Eq && test <= EqualpTest }

// mix adds a number to a hash, which wraps; its upper bits come down, since the lower ones say the bucket.
func mix(hash, n uint64) uint64 {
	hash = (hash ^ n) * hashPrime
	return hash ^ hash>>32
}

func mixText(hash uint64, text string) uint64 {
	for i := range len(text) {
		hash = (hash ^ uint64(text[i])) * hashPrime
	}
	return mix(hash, uint64(len(text)))
}

// word returns the hash of a word, for which at most n parts are looked at.
func (x hasher) word(w heap.Word, n int) uint64 {
	if x.test != Eq {
		if hash, ok := x.content(w, n); ok {
			return hash
		}
	}
	if x.placed || !w.IsRef() {
		return mix(hashStart, uint64(w))
	}
	return mix(mix(hashStart, uint64(x.h.Kind(w))), uint64(x.h.Len(w)))
}

// content returns the hash of what makes a word the same as others.
func (x hasher) content(w heap.Word, n int) (uint64, bool) {
	kind := kindOf(x.h, w)
	switch {
	case isNumber(kind):
		return x.number(w)
	case x.test == EqlTest:
		return 0, false
	case isPair(x.h, w):
		fields, _ := fieldsOf(x.h, w)
		return x.parts(heap.KindCons, fields, n), true
	case x.test == EqualpTest:
		return x.loose(w, n)
	case kind == heap.KindString || kind == heap.KindBits:
		text, e := x.h.Bytes(w)
		return mixText(uint64(kind), text), e == api.OK
	}
	return 0, false
}

// loose returns the hash of characters and arrays for Equalp.
func (x hasher) loose(w heap.Word, n int) (uint64, bool) {
	if c, ok := w.Character(); ok {
		return mix(hashStart, uint64(small(c))), true
	}
	a, ok := arrayOf(x.h, w)
	if !ok {
		return 0, false
	}
	return x.parts(heap.KindVector, elementsOf(x.h, a.elements), n), true
}

// parts returns the hash of what agrees with others if its parts do.
func (x hasher) parts(kind int, parts []heap.Word, n int) uint64 {
	hash := mix(hashStart, uint64(kind))
	if n == 0 {
		return hash
	}
	hash = mix(hash, uint64(len(parts)))
	for _, p := range parts[:min(len(parts), n)] {
		hash = mix(hash, x.word(p, n/hashFewer))
	}
	return hash
}

// number returns the hash of the form of what is made like a number, or of its value for Equalp.
func (x hasher) number(w heap.Word) (uint64, bool) {
	f := formOf(x.h, w)
	if x.test != EqualpTest {
		return mixForm(hashStart, f), true
	}
	a, e := number.Real(f)
	if e != api.OK {
		return 0, false
	}
	b, _ := number.Imaginary(f)
	a, _ = number.Rational(a)
	b, _ = number.Rational(b)
	return mixText(mixText(hashStart, a.Text), b.Text), true
}

func mixForm(hash uint64, f api.Form) uint64 {
	hash = mixText(mix(hash, uint64(f.Kind)), f.Text)
	for _, kid := range f.Kids {
		hash = mixForm(hash, kid)
	}
	return hash
}
