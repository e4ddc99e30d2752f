package lib

import (
	"slices"

	"commonform/heap"
	"commonform/table"
)

// mostSteps is how far NTH and NTHCDR go: behind so many conses a list goes round, or is at its end.
const mostSteps = 10000

func consRows() []row {
	return []row{
		{"CONS", "x x"},
		{"CAR", "l"},
		{"CDR", "l"},
		{"RPLACA", "d x"},
		{"RPLACD", "d x"},
		{"LIST", "x.."},
		{"LIST*", "x x.."},
		{"CONSP", "x"},
		{"ATOM", "x"},
		{"LISTP", "x"},
		{"NULL", "x"},
		{"NOT", "x"},
		{"APPEND", "x.."},
		{"REVERSE", "p"},
		{"NTH", "k l"},
		{"NTHCDR", "k l"},
		{"LAST", "l"},
		{"LENGTH", "q"},
		{"MEMBER", "x p"},
		{"ASSOC", "x p"},
		{"COPY-LIST", "p"},
	}
}

func (w *World) consOperations() map[string]operation {
	return map[string]operation{
		"CONS":   func(a []heap.Word) []heap.Word { return one(w.make(heap.KindCons, a...)) },
		"CAR":    func(a []heap.Word) []heap.Word { return one(w.part(a[0], 0)) },
		"CDR":    func(a []heap.Word) []heap.Word { return one(w.part(a[0], 1)) },
		"RPLACA": func(a []heap.Word) []heap.Word { return one(w.change(a[0], 0, a[1], a[0])) },
		"RPLACD": func(a []heap.Word) []heap.Word { return one(w.change(a[0], 1, a[1], a[0])) },
		"LIST":   func(a []heap.Word) []heap.Word { return one(w.list(a, heap.Nil)) },
		"LIST*":  func(a []heap.Word) []heap.Word { return one(w.list(a[:len(a)-1], a[len(a)-1])) },
		"CONSP":  w.predicate(w.isCons),
		"ATOM":   w.predicate(func(x heap.Word) bool { return !w.isCons(x) }),
		"LISTP":  w.predicate(w.isList),
		"NULL":   w.predicate(func(x heap.Word) bool { return x == heap.Nil }),
		"NOT":    w.predicate(func(x heap.Word) bool { return x == heap.Nil }),
		"APPEND": func(a []heap.Word) []heap.Word { return one(w.appended(a)) },
		"REVERSE": func(a []heap.Word) []heap.Word {
			l, _ := w.elements(a[0])
			slices.Reverse(l)
			return one(w.list(l, heap.Nil))
		},
		"NTH":    func(a []heap.Word) []heap.Word { return one(w.part(w.further(a[0], a[1]), 0)) },
		"NTHCDR": func(a []heap.Word) []heap.Word { return one(w.further(a[0], a[1])) },
		"LAST":   func(a []heap.Word) []heap.Word { return one(w.last(a[0])) },
		"LENGTH": func(a []heap.Word) []heap.Word { return one(fixnum(w.length(a[0]))) },
		"MEMBER": func(a []heap.Word) []heap.Word { return one(w.member(a[0], a[1])) },
		"ASSOC":  func(a []heap.Word) []heap.Word { return one(w.associated(a[0], a[1])) },
		"COPY-LIST": func(a []heap.Word) []heap.Word {
			l, _ := w.elements(a[0])
			return one(w.list(l, heap.Nil))
		},
	}
}

// predicate returns the operation that tells whether something is true of an object.
func (w *World) predicate(is func(x heap.Word) bool) operation {
	return func(a []heap.Word) []heap.Word { return one(w.truth(is(a[0]))) }
}

// part returns the car or the cdr of a list.
func (w *World) part(l heap.Word, i int) heap.Word {
	if l == heap.Nil {
		return l
	}
	if !w.isCons(l) {
		panic(w.wrongType(l, "LIST"))
	}
	return w.field(l, i)
}

// change changes a field of an object, and returns a result.
func (w *World) change(object heap.Word, i int, x, result heap.Word) heap.Word {
	w.heap.Set(object, i, x)
	return result
}

func (w *World) appended(a []heap.Word) heap.Word {
	if len(a) == 0 {
		return heap.Nil
	}
	last := len(a) - 1
	var all []heap.Word
	for _, l := range a[:last] {
		elements, tail := w.elements(l)
		if tail != heap.Nil {
			panic(w.wrongType(l, "LIST"))
		}
		all = append(all, elements...)
	}
	return w.list(all, a[last])
}

// further returns what is left of a list behind k conses.
func (w *World) further(k, l heap.Word) heap.Word {
	n, ok := k.Fixnum()
	if !ok || n > mostSteps {
		n = mostSteps
	}
	for range n {
		if l == heap.Nil {
			break
		}
		l = w.part(l, 1)
	}
	return l
}

func (w *World) last(l heap.Word) heap.Word {
	last, tail := l, l
	for c := range w.conses(l) {
		last, tail = c, w.field(c, 1)
	}
	if l != heap.Nil && w.isCons(tail) {
		panic(w.wrongType(l, "LIST"))
	}
	return last
}

func (w *World) member(x, l heap.Word) heap.Word {
	for c := range w.conses(l) {
		if w.isEql(x, w.field(c, 0)) {
			return c
		}
	}
	return heap.Nil
}

func (w *World) isEql(x, y heap.Word) bool {
	ok, _ := table.Eql(w.heap, x, y)
	return ok
}

func (w *World) associated(x, l heap.Word) heap.Word {
	for c := range w.conses(l) {
		pair := w.field(c, 0)
		if pair != heap.Nil && w.isEql(x, w.part(pair, 0)) {
			return pair
		}
	}
	return heap.Nil
}
