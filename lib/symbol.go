package lib

import (
	"commonform/api"
	"commonform/heap"
	"commonform/symbols"
)

// Fields of the object of a symbol.
const (
	symbolNumber = iota
	symbolName
	symbolValue
	symbolFunction
	symbolList
	symbolFields
)

const bytesOfWord = 8

// rawSize returns how many words an object with bytes takes.
func rawSize(bytes string) int { return 1 + (len(bytes)+bytesOfWord-1)/bytesOfWord }

// symbolSize returns how many words the object of a symbol takes, with its name.
func symbolSize(name string) int { return 1 + symbolFields + rawSize(name) }

func (w *World) hasRoom(words int) bool { return w.heap.Used()+words <= w.heap.Limit() }

// isFull reports whether the table has no room for so many further symbols.
func (w *World) isFull(more int) bool {
	_, _, e := w.table.Symbol(api.MaxSymbols - more)
	return more > 0 && (more > api.MaxSymbols || e == api.OK)
}

// existing returns the object of a symbol, if there is one. (A root may have lost it, if somebody else calls Keep or Drop.)
func (w *World) existing(number int) (heap.Word, bool) {
	if number == 0 {
		return heap.Nil, true
	}
	root, ok := w.roots[number]
	x, e := w.heap.At(root)
	return x, ok && e == api.OK && w.heap.Kind(x) == heap.KindSymbol
}

// missing returns how many words the object of a symbol takes, if it is still to be made.
func (w *World) missing(number int) int {
	if _, ok := w.existing(number); ok {
		return 0
	}
	name, _, _ := w.table.Symbol(number)
	return symbolSize(name)
}

// object returns the object of a symbol, which is made if there is none.
func (w *World) object(number int) (heap.Word, api.Errno) {
	if x, ok := w.existing(number); ok {
		return x, api.OK
	}
	name, home, e := w.table.Symbol(number)
	if e != api.OK {
		return 0, e
	}
	if !w.hasRoom(symbolSize(name)) {
		return 0, api.ErrWords
	}
	text, _ := w.heap.Raw(heap.KindString, name)
	x, _ := w.heap.New(heap.KindSymbol, symbolFields)
	n, _ := heap.Fix(int64(number))
	value := heap.Unbound
	if home == keyword {
		value = x
	}
	for i, y := range [symbolFields]heap.Word{n, text, value, heap.Unbound, heap.Nil} {
		w.heap.Set(x, i, y)
	}
	w.roots[number] = w.heap.Root(x)
	return x, api.OK
}

// Symbol returns the object of a symbol of a package.
func (w *World) Symbol(home, name string) (heap.Word, api.Errno) {
	if w.isNone() {
		return 0, api.ErrArg
	}
	number, status, e := w.table.Find(home, name)
	switch {
	case e != api.OK:
		return 0, e
	case status != symbols.None:
		return w.object(number)
	case w.isFull(1):
		return 0, api.ErrFull
	case !w.hasRoom(symbolSize(name)):
		return 0, api.ErrWords
	}
	number, _, e = w.table.Intern(home, name)
	if e != api.OK {
		return 0, e
	}
	return w.object(number)
}

// fresh returns a new symbol without a home.
func (w *World) fresh(name string) (heap.Word, api.Errno) {
	switch {
	case len(name) > api.MaxName:
		return 0, api.ErrSize
	case w.isFull(1):
		return 0, api.ErrFull
	case !w.hasRoom(symbolSize(name)):
		return 0, api.ErrWords
	}
	number, e := w.table.Fresh(name)
	if e != api.OK {
		return 0, e
	}
	return w.object(number)
}

func (w *World) isSymbol(x heap.Word) bool { return w.heap.Kind(x) == heap.KindSymbol }

// Name returns the home and the name of a symbol.
func (w *World) Name(x heap.Word) (home, name string, e api.Errno) {
	if w.isNone() {
		return "", "", api.ErrArg
	}
	if !w.isSymbol(x) {
		return "", "", ErrNoSymbol
	}
	number, e := w.heap.Get(x, symbolNumber)
	n, ok := number.Fixnum()
	if e != api.OK || !ok {
		return "", "", ErrNoSymbol
	}
	name, home, e = w.table.Symbol(int(n))
	if e != api.OK {
		return "", "", ErrNoSymbol
	}
	return home, name, api.OK
}

// isConstant reports whether a symbol is NIL, T or a keyword.
func (w *World) isConstant(x heap.Word) bool {
	home, name, e := w.Name(x)
	return x == heap.Nil || e == api.OK && (home == keyword || home == commonLisp && name == "T")
}

// get returns a field of a symbol.
func (w *World) get(symbol heap.Word, field int) (heap.Word, api.Errno) {
	if w.isNone() {
		return 0, api.ErrArg
	}
	if !w.isSymbol(symbol) {
		return 0, ErrNoSymbol
	}
	return w.heap.Get(symbol, field)
}

// put changes a field of a symbol, unless it is a constant for which this is refused.
func (w *World) put(symbol heap.Word, field int, x heap.Word, isRefused bool) api.Errno {
	if w.isNone() {
		return api.ErrArg
	}
	if !w.isSymbol(symbol) {
		return ErrNoSymbol
	}
	if isRefused && w.isConstant(symbol) {
		return api.ErrArg
	}
	return w.heap.Set(symbol, field, x)
}

// Value returns the value of a symbol, Unbound if it has none.
func (w *World) Value(symbol heap.Word) (heap.Word, api.Errno) { return w.get(symbol, symbolValue) }

// SetValue changes the value of a symbol; Unbound takes it away.
func (w *World) SetValue(symbol, x heap.Word) api.Errno { return w.put(symbol, symbolValue, x, true) }

// Function returns the function of a symbol, Unbound if it has none.
func (w *World) Function(symbol heap.Word) (heap.Word, api.Errno) {
	return w.get(symbol, symbolFunction)
}

// SetFunction changes the function of a symbol; Unbound takes it away.
func (w *World) SetFunction(symbol, x heap.Word) api.Errno {
	return w.put(symbol, symbolFunction, x, x == heap.Unbound)
}
