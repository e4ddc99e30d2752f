package lib

import (
	"commonform/api"
	"commonform/heap"
	"commonform/table"
)

func kindRows() []row {
	out := []row{{"EQ", "x x"}, {"EQL", "x x"}, {"EQUAL", "x x"}, {"EQUALP", "x x"}}
	for _, name := range []string{"SYMBOLP", "KEYWORDP", "NUMBERP", "INTEGERP", "RATIONALP", "REALP", "FLOATP", "COMPLEXP", "CHARACTERP", "STRINGP", "BIT-VECTOR-P", "VECTORP", "ARRAYP", "FUNCTIONP", "HASH-TABLE-P"} {
		out = append(out, row{name, "x"})
	}
	return out
}

func (w *World) kindOperations() map[string]operation {
	of := func(letter byte) operation {
		return w.predicate(func(x heap.Word) bool { return w.isOf(x, letter) })
	}
	return map[string]operation{
		"EQ":     func(a []heap.Word) []heap.Word { return one(w.truth(a[0] == a[1])) },
		"EQL":    w.relation(table.Eql),
		"EQUAL":  w.relation(table.Equal),
		"EQUALP": w.relation(table.Equalp),

		"SYMBOLP":      w.predicate(w.isSymbol),
		"KEYWORDP":     w.predicate(w.isKeyword),
		"NUMBERP":      of('n'),
		"INTEGERP":     of('i'),
		"RATIONALP":    of('a'),
		"REALP":        of('r'),
		"FLOATP":       w.predicate(w.isFloat),
		"COMPLEXP":     w.predicate(func(x heap.Word) bool { return w.isNumber(x, heap.KindComplex, heap.KindComplex) }),
		"CHARACTERP":   of('c'),
		"STRINGP":      of('t'),
		"BIT-VECTOR-P": w.predicate(w.isBits),
		"VECTORP":      w.predicate(func(x heap.Word) bool { return w.isArray(x) && w.heap.Kind(x) != heap.KindArray }),
		"ARRAYP":       of('v'),
		"FUNCTIONP":    w.predicate(w.isFunction),
		"HASH-TABLE-P": of('h'),
	}
}

// relation returns the operation that tells whether two objects are the same.
func (w *World) relation(holds func(h *heap.Heap, x, y heap.Word) (bool, api.Errno)) operation {
	return func(a []heap.Word) []heap.Word {
		ok, _ := holds(w.heap, a[0], a[1])
		return one(w.truth(ok))
	}
}

func (w *World) isKeyword(x heap.Word) bool {
	home, _, _ := w.Name(x)
	return home == keyword
}

func (w *World) isFloat(x heap.Word) bool {
	return w.isNumber(x, heap.KindSingle, heap.KindDouble)
}
