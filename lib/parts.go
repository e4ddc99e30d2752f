package lib

import (
	"maps"
	"slices"

	"commonform/api"
	"commonform/heap"
	"commonform/symbols"
)

// Parts is what an image has of a world: the text of its packages, its output and counter, the numbers of the symbols that have objects, and these objects.
type Parts struct {
	Table, Output string
	Counter       int
	Numbers       []int
	Words         []heap.Word
}

// Parts returns what an image needs of a world.
func (w *World) Parts() Parts {
	if w.isNone() {
		return Parts{}
	}
	out := Parts{Table: w.table.Text(), Output: w.Output(), Counter: w.counter}
	for _, number := range slices.Sorted(maps.Keys(w.roots)) {
		if x, ok := w.existing(number); ok {
			out.Numbers = append(out.Numbers, number)
			out.Words = append(out.Words, x)
		}
	}
	return out
}

// Restore returns a world with some parts and objects.
func Restore(limit, young int, p Parts, cells []heap.Cell, fields []heap.Field) (*World, []heap.Word, api.Errno) {
	table, e := symbols.Parse(p.Table)
	if e != api.OK {
		return nil, nil, api.ErrForm
	}
	if len(p.Output) > api.MaxOutput {
		return nil, nil, api.ErrLarge
	}
	known := len(p.Numbers)
	if p.Counter < 0 || !areNumbers(table, p.Numbers) || len(fields) < known+symbolFields {
		return nil, nil, api.ErrArg
	}
	h, e := heap.New(limit, young)
	if e != api.OK {
		return nil, nil, e
	}
	words, e := h.Lay(cells, fields)
	if e != api.OK {
		return nil, nil, e
	}
	for i, x := range words[known : known+symbolFields] {
		h.Set(heap.Nil, i, x)
	}
	w := newWorld(h, table)
	w.counter = p.Counter
	w.output.WriteString(p.Output)
	for i, number := range p.Numbers {
		if !w.isObject(number, words[i]) {
			return nil, nil, ErrNoSymbol
		}
		if number > 0 {
			w.roots[number] = h.Root(words[i])
		}
	}
	return w, words[known+symbolFields:], api.OK
}

// areNumbers reports whether numbers are those of symbols of a table, ascending, and the first one is 0.
func areNumbers(t *symbols.Table, numbers []int) bool {
	for i, n := range numbers {
		if _, _, e := t.Symbol(n); e != api.OK || i > 0 && n <= numbers[i-1] {
			return false
		}
	}
	return len(numbers) > 0 && numbers[0] == 0
}

// isObject reports whether an object is that of the symbol with a number.
func (w *World) isObject(number int, x heap.Word) bool {
	name, _, _ := w.table.Symbol(number)
	n, e := w.heap.Get(x, symbolNumber)
	text, f := w.heap.Get(x, symbolName)
	if e != api.OK || f != api.OK || !w.isSymbol(x) || (x == heap.Nil) != (number == 0) {
		return false
	}
	value, ok := n.Fixnum()
	return ok && int(value) == number && w.isString(text) && w.bytes(text) == name
}
