package lib

import "commonform/heap"

// argumentType is a type of arguments: its letter in the tables, and its name.
type argumentType struct {
	letter byte
	name   string
}

// argumentTypes returns the types of arguments in the order of the document.
func argumentTypes() []argumentType {
	return []argumentType{
		{'l', "LIST"},
		{'p', "LIST"}, // a proper one
		{'q', "SEQUENCE"},
		{'s', "SYMBOL"},
		{'n', "NUMBER"},
		{'r', "REAL"},
		{'a', "RATIONAL"},
		{'i', "INTEGER"},
		{'k', "UNSIGNED-BYTE"},
		{'c', "CHARACTER"},
		{'t', "STRING"},
		{'v', "ARRAY"},
		{'h', "HASH-TABLE"},
		{'d', "CONS"},
		{'g', "FUNCTION"},
	}
}

// typeNames returns the names of all types of arguments.
func typeNames() []string {
	var out []string
	for _, t := range argumentTypes() {
		out = append(out, t.name)
	}
	return out
}

// typeOf returns the name of the type with a letter.
func typeOf(letter byte) string {
	for _, t := range argumentTypes() {
		if t.letter == letter {
			return t.name
		}
	}
	return "T"
}

// isOf reports whether a word is of the type with a letter.
func (w *World) isOf(x heap.Word, letter byte) bool {
	switch letter {
	case 'l':
		return w.isList(x)
	case 'p':
		return w.isProper(x)
	case 'q':
		return w.isString(x) || w.isBits(x) || w.isVector(x) || w.isProper(x)
	case 's':
		return w.isSymbol(x)
	case 'n':
		return w.isNumber(x, heap.KindInt, heap.KindComplex)
	case 'r':
		return w.isNumber(x, heap.KindInt, heap.KindDouble)
	case 'a':
		return w.isNumber(x, heap.KindInt, heap.KindRatio)
	case 'i':
		return w.isInteger(x)
	case 'k':
		return w.isInteger(x) && !w.isBelowZero(x)
	case 'c':
		_, ok := x.Character()
		return ok
	case 't':
		return w.isString(x)
	case 'v':
		return w.isArray(x)
	case 'h':
		return w.heap.Kind(x) == heap.KindTable
	case 'd':
		return w.isCons(x)
	case 'g':
		return w.isFunction(x) || w.isSymbol(x)
	}
	return true
}

func (w *World) isList(x heap.Word) bool { return x == heap.Nil || w.isCons(x) }

func (w *World) isArray(x heap.Word) bool {
	_, _, ok := w.arrayOf(x)
	return ok || w.isString(x) || w.isBits(x) || w.isVector(x)
}
