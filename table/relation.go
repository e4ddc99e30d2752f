package table

import (
	"slices"

	"commonform/api"
	"commonform/heap"
	"commonform/number"
)

// answer says whether two words agree.
type answer int

const (
	differ  answer = iota
	agree          // by value
	perhaps        // if their parts do
)

// relation compares words by a test. It supposes that the pairs which it has met are in the relation: if one is not, the words that are compared are not, either.
type relation struct {
	h     *heap.Heap
	test  int
	marks map[[2]heap.Word]bool
	// leaders has a word of the same class for words that were met, and need not be compared with any other one of their class. Marks alone would not do: two circles whose lengths have no common factor have as many pairs as the product of both.
	leaders map[heap.Word]heap.Word
}

// Eql reports whether two words are eql.
func Eql(h *heap.Heap, a, b heap.Word) (bool, api.Errno) { return related(h, EqlTest, a, b) }

// Equal reports whether two words are equal.
func Equal(h *heap.Heap, a, b heap.Word) (bool, api.Errno) { return related(h, EqualTest, a, b) }

// Equalp reports whether two words are equalp.
func Equalp(h *heap.Heap, a, b heap.Word) (bool, api.Errno) { return related(h, EqualpTest, a, b) }

func related(h *heap.Heap, test int, a, b heap.Word) (bool, api.Errno) {
	if e := checkWords(h, a, b); e != api.OK {
		return false, e
	}
	r := relation{h: h, test: test}
	return r.holds(a, b), api.OK
}

// checkWords returns the error of a heap and some words.
func checkWords(h *heap.Heap, words ...heap.Word) api.Errno {
	if h == nil {
		return api.ErrArg
	}
	for _, w := range words {
		_, fixnum := w.Fixnum()
		_, character := w.Character()
		if !fixnum && !character && w != heap.Unbound && h.Place(w) < 0 {
			return heap.ErrWord
		}
	}
	return api.OK
}

// holds reports whether two words are in the relation.
func (r *relation) holds(a, b heap.Word) bool {
	r.marks, r.leaders = nil, nil
	x := r.ask(a, b)
	return x == agree || x == perhaps && r.holdsByParts(a, b)
}

// holdsByParts reports whether the parts of two words, which agree if these do, are in the relation.
func (r *relation) holdsByParts(a, b heap.Word) bool {
	var open [][2]heap.Word
	look := func(p, q heap.Word) bool {
		answer := r.ask(p, q)
		if answer == perhaps {
			r.mark(p, q)
			open = append(open, [2]heap.Word{p, q})
		}
		return answer != differ
	}
	if !r.each(a, b, look) {
		return false
	}
	if len(open) == 0 || r.join(a, b) {
		return true
	}
	for _, pair := range open {
		if !r.holdsByParts(pair[0], pair[1]) {
			return false
		}
	}
	return true
}

// mark keeps a pair that need not be asked for again: it agrees, or its parts are looked at before the answer.
func (r *relation) mark(a, b heap.Word) {
	if r.marks == nil { // most comparisons end ahead of the first mark
		r.marks, r.leaders = map[[2]heap.Word]bool{}, map[heap.Word]heap.Word{}
	}
	r.marks[[2]heap.Word{a, b}] = true
}

// join makes one class of the classes of two words, and reports whether they were one.
func (r *relation) join(a, b heap.Word) bool {
	a, b = r.leader(a), r.leader(b)
	if a == b {
		return true
	}
	r.leaders[a] = b
	return false
}

func (r *relation) leader(w heap.Word) heap.Word {
	for {
		next, ok := r.leaders[w]
		if !ok {
			return w
		}
		if far, ok := r.leaders[next]; ok {
			r.leaders[w] = far
		}
		w = next
	}
}

// ask says whether two words agree.
func (r *relation) ask(a, b heap.Word) answer {
	switch {
	case a == b || r.marks[[2]heap.Word{a, b}]:
		return agree
	case r.test == Eq:
		return differ
	}
	switch j, k := kindOf(r.h, a), kindOf(r.h, b); {
	case isNumber(j) && isNumber(k):
		return r.askNumbers(a, b)
	case r.test == EqlTest:
		return differ
	case j == heap.KindCons && k == heap.KindCons:
		return r.askPairs(a, b)
	case r.test == EqualpTest:
		return r.askArrays(a, b)
	case j == heap.KindString && k == j, j == heap.KindBits && k == j:
		return r.byValue(a, b, haveSameBytes(r.h, a, b))
	}
	return differ
}

// byValue says that two words agree, or differ; it marks those that agree, since long texts take their time.
func (r *relation) byValue(a, b heap.Word, ok bool) answer {
	if !ok {
		return differ
	}
	r.mark(a, b)
	return agree
}

// askPairs looks at the parts of two conses that are no conses: most conses that are compared differ there.
func (r *relation) askPairs(a, b heap.Word) answer {
	if !isPair(r.h, a) || !isPair(r.h, b) {
		return differ
	}
	mayAgree := r.each(a, b, func(p, q heap.Word) bool { return r.h.Kind(p) == heap.KindCons || r.ask(p, q) != differ })
	if !mayAgree {
		return differ
	}
	return perhaps
}

// askNumbers says whether two numbers, or what is made like them, agree.
func (r *relation) askNumbers(a, b heap.Word) answer {
	if !a.IsRef() && !b.IsRef() { // two fixnums that are not the same word
		return differ
	}
	x, y := formOf(r.h, a), formOf(r.h, b)
	var ok bool
	if r.test == EqualpTest {
		ok, _ = number.Equals(x, y)
	} else if x.Text == y.Text { // Eql would look at long ones first
		ok, _ = number.Eql(x, y)
	}
	return r.byValue(a, b, ok)
}

// askArrays says whether two words agree that are no numbers and not both conses.
func (r *relation) askArrays(a, b heap.Word) answer {
	if !a.IsRef() && !b.IsRef() {
		c, one := a.Character()
		d, other := b.Character()
		return r.byValue(a, b, one && other && small(c) == small(d))
	}
	x, one := arrayOf(r.h, a)
	y, other := arrayOf(r.h, b)
	if !one || !other || !slices.Equal(x.dims, y.dims) {
		return differ
	}
	return perhaps
}

func haveSameBytes(h *heap.Heap, a, b heap.Word) bool {
	if h.Len(a) != h.Len(b) {
		return false
	}
	x, e := h.Bytes(a)
	y, f := h.Bytes(b)
	return e == api.OK && f == api.OK && x == y
}

// each asks for the parts of two words that agree if these do, pair by pair, and reports whether all answers are true.
func (r *relation) each(a, b heap.Word, ask func(p, q heap.Word) bool) bool {
	if r.h.Kind(a) == heap.KindCons {
		for i := range 2 {
			p, _ := r.h.Get(a, i)
			q, _ := r.h.Get(b, i)
			if !ask(p, q) {
				return false
			}
		}
		return true
	}
	p, q := r.elements(a, b)
	for i := range p {
		if !ask(p[i], q[i]) {
			return false
		}
	}
	return true
}

// elements returns the elements of two arrays with the same dimensions. If one of them has a vector for its elements, both are compared as arrays of their own: as to their number, and once only if many arrays share them.
func (r *relation) elements(a, b heap.Word) (p, q []heap.Word) {
	x, _ := arrayOf(r.h, a)
	y, _ := arrayOf(r.h, b)
	if x.elements != a || y.elements != b {
		return []heap.Word{x.elements}, []heap.Word{y.elements}
	}
	return elementsOf(r.h, a), elementsOf(r.h, b)
}
