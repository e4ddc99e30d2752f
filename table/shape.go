package table

import (
	"strconv"
	"unicode/utf8"

	"commonform/api"
	"commonform/heap"
)

// kindOf returns the kind of an object, that of integers for a fixnum, and 0 for all other words.
func kindOf(h *heap.Heap, w heap.Word) int {
	if _, ok := w.Fixnum(); ok {
		return heap.KindInt
	}
	return h.Kind(w)
}

func isNumber(kind int) bool { return kind >= heap.KindInt && kind <= heap.KindComplex }

// formOf returns the form of an object, if it is a number; of all others a form that layer 5 takes for none.
func formOf(h *heap.Heap, w heap.Word) api.Form {
	if n, ok := w.Fixnum(); ok {
		return api.Form{Kind: api.FormInt, Text: strconv.FormatInt(n, 10)}
	}
	kind := h.Kind(w)
	if kind == heap.KindComplex {
		return complexOf(h, w)
	}
	text, _ := h.Bytes(w)
	return api.Form{Kind: kind, Text: text}
}

func complexOf(h *heap.Heap, w heap.Word) api.Form {
	fields, _ := fieldsOf(h, w)
	if len(fields) != 2 {
		return api.Form{}
	}
	out := api.Form{Kind: api.FormComplex}
	for _, field := range fields {
		if kindOf(h, field) == heap.KindComplex { // no part of a number, and maybe w itself
			return api.Form{}
		}
		out.Kids = append(out.Kids, formOf(h, field))
	}
	return out
}

// fieldsOf returns the fields of an object, and whether it has fields, and no bytes.
func fieldsOf(h *heap.Heap, w heap.Word) ([]heap.Word, bool) {
	if !hasFields(h, w) {
		return nil, false
	}
	out := make([]heap.Word, h.Len(w))
	for i := range out {
		out[i], _ = h.Get(w, i)
	}
	return out, true
}

func hasFields(h *heap.Heap, w heap.Word) bool {
	_, e := h.Get(w, 0)
	return e == api.OK || e == api.ErrRange
}

// isPair reports whether a word is a cons that has a car and a cdr.
func isPair(h *heap.Heap, w heap.Word) bool {
	if h.Kind(w) != heap.KindCons || h.Len(w) != 2 {
		return false
	}
	_, e := h.Get(w, 0)
	return e == api.OK
}

// array is what Equalp sees of an array: the dimensions, and the object that has the elements, which is an array of one dimension.
type array struct {
	dims     []heap.Word
	elements heap.Word
}

func arrayOf(h *heap.Heap, w heap.Word) (array, bool) {
	switch h.Kind(w) {
	case heap.KindString, heap.KindBits:
		text, e := h.Bytes(w)
		n := len(text)
		if h.Kind(w) == heap.KindString {
			n = utf8.RuneCountInString(text)
		}
		return flat(w, n), e == api.OK
	case heap.KindVector:
		return flat(w, h.Len(w)), hasFields(h, w)
	case heap.KindArray:
		if h.Len(w) != 2 {
			return array{}, false
		}
		dims, _ := h.Get(w, 0)
		elements, _ := h.Get(w, 1)
		fields, _ := fieldsOf(h, dims)
		return array{fields, elements}, isVector(h, dims) && isVector(h, elements)
	}
	return array{}, false
}

func isVector(h *heap.Heap, w heap.Word) bool {
	return h.Kind(w) == heap.KindVector && hasFields(h, w)
}

// flat is an array of n elements in a row.
func flat(w heap.Word, n int) array {
	dim, _ := heap.Fix(int64(n))
	return array{[]heap.Word{dim}, w}
}

// elementsOf returns the elements of an array of one dimension.
func elementsOf(h *heap.Heap, w heap.Word) []heap.Word {
	if out, ok := fieldsOf(h, w); ok {
		return out
	}
	text, _ := h.Bytes(w)
	var out []heap.Word
	if h.Kind(w) == heap.KindBits {
		for i := range len(text) {
			out = append(out, bitOf(text[i]))
		}
		return out
	}
	for _, c := range text { // of bytes that are no UTF-8 each one is the character 65533
		x, _ := heap.Char(c)
		out = append(out, x)
	}
	return out
}

func bitOf(b byte) heap.Word {
	n := int64(0)
	if b == '1' {
		n = 1
	}
	w, _ := heap.Fix(n)
	return w
}

// small returns a letter from A to Z as one from a to z.
func small(c rune) rune {
	if c >= 'A' && c <= 'Z' {
		return c - 'A' + 'a'
	}
	return c
}
