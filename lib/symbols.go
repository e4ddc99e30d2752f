package lib

import (
	"strconv"

	"commonform/api"
	"commonform/heap"
	"commonform/symbols"
)

func symbolRows() []row {
	return []row{
		{"SYMBOL-NAME", "s"},
		{"SYMBOL-PACKAGE", "s"},
		{"SYMBOL-VALUE", "s"},
		{"SET", "s x"},
		{"BOUNDP", "s"},
		{"MAKUNBOUND", "s"},
		{"SYMBOL-FUNCTION", "s"},
		{"%FSET", "s g"},
		{"FBOUNDP", "s"},
		{"FMAKUNBOUND", "s"},
		{"SYMBOL-PLIST", "s"},
		{"%SET-PLIST", "s x"},
		{"INTERN", "t [t]"},
		{"FIND-SYMBOL", "t [t]"},
		{"MAKE-SYMBOL", "t"},
		{"GENSYM", "[t]"},
	}
}

func (w *World) symbolOperations() map[string]operation {
	return map[string]operation{
		"SYMBOL-NAME":     func(a []heap.Word) []heap.Word { return one(w.nameOf(a[0])) },
		"SYMBOL-PACKAGE":  func(a []heap.Word) []heap.Word { return one(w.homeOf(a[0])) },
		"SYMBOL-VALUE":    w.bound(symbolValue, "UNBOUND-VARIABLE"),
		"SET":             func(a []heap.Word) []heap.Word { return one(w.assigned(a[0], a[1], a[1])) },
		"BOUNDP":          w.predicate(func(x heap.Word) bool { return w.field(x, symbolValue) != heap.Unbound }),
		"MAKUNBOUND":      func(a []heap.Word) []heap.Word { return one(w.assigned(a[0], heap.Unbound, a[0])) },
		"SYMBOL-FUNCTION": w.bound(symbolFunction, "UNDEFINED-FUNCTION"),
		"%FSET": func(a []heap.Word) []heap.Word {
			f := w.functionOf(a[1])
			return one(w.change(a[0], symbolFunction, f, f))
		},
		"FBOUNDP":      w.predicate(func(x heap.Word) bool { return w.field(x, symbolFunction) != heap.Unbound }),
		"FMAKUNBOUND":  func(a []heap.Word) []heap.Word { return one(w.change(a[0], symbolFunction, heap.Unbound, a[0])) },
		"SYMBOL-PLIST": func(a []heap.Word) []heap.Word { return one(w.field(a[0], symbolList)) },
		"%SET-PLIST":   func(a []heap.Word) []heap.Word { return one(w.change(a[0], symbolList, a[1], a[1])) },
		"INTERN":       w.finding(true),
		"FIND-SYMBOL":  w.finding(false),
		"MAKE-SYMBOL":  func(a []heap.Word) []heap.Word { return one(w.unhomed(a[0], w.bytes(a[0]))) },
		"GENSYM":       func(a []heap.Word) []heap.Word { return one(w.generated(a)) },
	}
}

// nameOf returns the name of a symbol, a new string.
func (w *World) nameOf(x heap.Word) heap.Word {
	_, name, _ := w.Name(x)
	return w.text(heap.KindString, name)
}

func (w *World) homeOf(x heap.Word) heap.Word {
	home, _, _ := w.Name(x)
	if home == "" {
		return heap.Nil
	}
	return w.text(heap.KindString, home)
}

// bound returns the operation that tells a field of a symbol; without anything in it there is a fault.
func (w *World) bound(field int, kind string) operation {
	return func(a []heap.Word) []heap.Word { return one(w.boundField(a[0], field, kind)) }
}

func (w *World) boundField(x heap.Word, field int, kind string) heap.Word {
	y := w.field(x, field)
	if y == heap.Unbound {
		panic(fault(kind, x))
	}
	return y
}

// assigned gives a symbol a value, and returns a result.
func (w *World) assigned(symbol, x, result heap.Word) heap.Word {
	if w.isConstant(symbol) {
		panic(fault("PROGRAM-ERROR", symbol))
	}
	return w.change(symbol, symbolValue, x, result)
}

// functionOf returns the function of a symbol; a function as it is.
func (w *World) functionOf(x heap.Word) heap.Word {
	if w.isSymbol(x) {
		return w.boundField(x, symbolFunction, "UNDEFINED-FUNCTION")
	}
	return x
}

// finding returns the operation that looks for a symbol, and may make it.
func (w *World) finding(mayMake bool) operation {
	return func(a []heap.Word) []heap.Word {
		pack := userHome
		if len(a) > 1 {
			pack = w.bytes(a[1])
		}
		name := w.bytes(a[0])
		number, status, e := w.table.Find(pack, name)
		isNew := e == api.OK && status == symbols.None
		if isNew && mayMake && w.isFull(1) {
			e = api.ErrFull
		}
		switch {
		case e != api.OK:
			if len(a) > 1 {
				panic(fault("PACKAGE-ERROR", a[1]))
			}
			panic(fault("PACKAGE-ERROR", w.text(heap.KindString, userHome)))
		case isNew && mayMake:
			x, e := w.Symbol(pack, name)
			must(e)
			return []heap.Word{x, heap.Nil}
		case isNew:
			return []heap.Word{heap.Nil, heap.Nil}
		}
		return w.found(number, status)
	}
}

// found returns a symbol and its status. The symbol of the status is made only if there is room for its object, too.
func (w *World) found(number, status int) []heap.Word {
	name := [...]string{symbols.Internal: "INTERNAL", symbols.External: "EXTERNAL", symbols.Inherited: "INHERITED"}[status]
	x, e := w.object(number)
	must(e)
	s, e := w.Symbol(keyword, name)
	must(e)
	return []heap.Word{x, s}
}

// unhomed returns a new symbol without a home; the text is what a fault tells.
func (w *World) unhomed(text heap.Word, name string) heap.Word {
	x, e := w.fresh(name)
	if e == api.ErrSize || e == api.ErrFull {
		panic(fault("PACKAGE-ERROR", text))
	}
	must(e)
	return x
}

func (w *World) generated(a []heap.Word) heap.Word {
	prefix := "G"
	if len(a) > 0 {
		prefix = w.bytes(a[0])
	}
	x, e := w.fresh(prefix + strconv.Itoa(w.counter))
	switch {
	case (e == api.ErrSize || e == api.ErrFull) && len(a) > 0:
		panic(fault("PACKAGE-ERROR", a[0]))
	case e == api.ErrSize || e == api.ErrFull:
		panic(fault("PACKAGE-ERROR", w.text(heap.KindString, prefix)))
	}
	must(e)
	w.counter++
	return x
}
