package lib

import (
	"iter"

	"commonform/api"
	"commonform/heap"
)

// isRight reports whether a word is immediate, or a reference to an object.
func (w *World) isRight(x heap.Word) bool {
	_, fixnum := x.Fixnum()
	_, character := x.Character()
	return fixnum || character || x == heap.Unbound || w.heap.Place(x) >= 0
}

// field returns a field of an object, NIL where there is none.
func (w *World) field(x heap.Word, i int) heap.Word {
	y, e := w.heap.Get(x, i)
	if e != api.OK {
		return heap.Nil
	}
	return y
}

// fields returns the fields of an object.
func (w *World) fields(x heap.Word) []heap.Word {
	out := make([]heap.Word, w.heap.Len(x))
	for i := range out {
		out[i] = w.field(x, i)
	}
	return out
}

// bytes returns the bytes of an object, none where there are none.
func (w *World) bytes(x heap.Word) string {
	s, _ := w.heap.Bytes(x)
	return s
}

// hasFields reports whether an object has fields, and no bytes.
func (w *World) hasFields(x heap.Word) bool {
	_, e := w.heap.Get(x, 0)
	return e == api.OK || e == api.ErrRange
}

func (w *World) isCons(x heap.Word) bool {
	return w.heap.Kind(x) == heap.KindCons && w.heap.Len(x) == 2 && w.hasFields(x)
}

func (w *World) isVector(x heap.Word) bool {
	return w.heap.Kind(x) == heap.KindVector && w.hasFields(x)
}

// isText reports whether a word is an object of a kind that has bytes.
func (w *World) isText(x heap.Word, kind int) bool {
	return w.heap.Kind(x) == kind && !w.hasFields(x)
}

func (w *World) isString(x heap.Word) bool { return w.isText(x, heap.KindString) }

func (w *World) isBits(x heap.Word) bool { return w.isText(x, heap.KindBits) }

// arrayOf returns the dimensions of an object of the kind KindArray, and the vector of its elements.
func (w *World) arrayOf(x heap.Word) (dims []int, elements heap.Word, ok bool) {
	if w.heap.Kind(x) != heap.KindArray || w.heap.Len(x) != 2 || !w.hasFields(x) {
		return nil, 0, false
	}
	elements = w.field(x, 1)
	ok = w.isVector(w.field(x, 0)) && w.isVector(elements)
	for _, d := range w.fields(w.field(x, 0)) {
		n, isFixnum := d.Fixnum()
		dims = append(dims, int(n))
		ok = ok && isFixnum && n >= 0
	}
	return dims, elements, ok
}

// isNumber reports whether a word is a number of a kind from first to last.
func (w *World) isNumber(x heap.Word, first, last int) bool {
	kind := w.heap.Kind(x)
	if _, ok := x.Fixnum(); ok {
		kind = heap.KindInt
	}
	return kind >= first && kind <= last
}

func (w *World) isInteger(x heap.Word) bool { return w.isNumber(x, heap.KindInt, heap.KindInt) }

func (w *World) isFunction(x heap.Word) bool {
	switch w.heap.Kind(x) {
	case heap.KindBuiltin, heap.KindClosure, heap.KindCode:
		return true
	}
	return false
}

// conses walks the conses of a list, up to one that it met already.
func (w *World) conses(l heap.Word) iter.Seq[heap.Word] {
	return func(yield func(heap.Word) bool) {
		met := map[heap.Word]bool{}
		for w.isCons(l) && !met[l] {
			met[l] = true
			if !yield(l) {
				return
			}
			l = w.field(l, 1)
		}
	}
}

// elements returns the elements of a list, and what stands behind its last cons: NIL only if it is proper.
func (w *World) elements(l heap.Word) ([]heap.Word, heap.Word) {
	var out []heap.Word
	for c := range w.conses(l) {
		out = append(out, w.field(c, 0))
		l = w.field(c, 1)
	}
	return out, l
}

func (w *World) isProper(l heap.Word) bool {
	_, tail := w.elements(l)
	return tail == heap.Nil
}
