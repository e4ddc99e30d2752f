package lib

import (
	"strings"
	"unicode/utf8"

	"commonform/heap"
)

func textRows() []row {
	return []row{
		{"CHAR-CODE", "c"},
		{"CODE-CHAR", "k"},
		{"CHAR-UPCASE", "c"},
		{"CHAR-DOWNCASE", "c"},
		{"CHAR", "t k"},
		{"STRING=", "t t"},
		{"STRING<", "t t"},
		{"CONCAT", "t.."},
		{"SUBSEQ", "q k [k]"},
		{"STRING", "x"},
	}
}

func (w *World) textOperations() map[string]operation {
	return map[string]operation{
		"CHAR-CODE": func(a []heap.Word) []heap.Word {
			c, _ := a[0].Character()
			return one(fixnum(int(c)))
		},
		"CODE-CHAR":     func(a []heap.Word) []heap.Word { return one(characterOf(a[0])) },
		"CHAR-UPCASE":   cased('a', 'A'),
		"CHAR-DOWNCASE": cased('A', 'a'),
		"CHAR":          func(a []heap.Word) []heap.Word { return one(w.characterAt(a[0], a[1])) },
		"STRING=": func(a []heap.Word) []heap.Word {
			x, y := w.runes(a[0]), w.runes(a[1])
			return one(w.truth(len(x) == len(y) && difference(x, y) == len(x)))
		},
		"STRING<": func(a []heap.Word) []heap.Word {
			x, y := w.runes(a[0]), w.runes(a[1])
			i := difference(x, y)
			if i < len(y) && (i == len(x) || x[i] < y[i]) {
				return one(fixnum(i))
			}
			return one(heap.Nil)
		},
		"CONCAT": func(a []heap.Word) []heap.Word {
			var out strings.Builder
			for _, x := range a {
				out.WriteString(w.bytes(x))
			}
			return one(w.text(heap.KindString, out.String()))
		},
		"SUBSEQ": func(a []heap.Word) []heap.Word { return one(w.subsequence(a)) },
		"STRING": func(a []heap.Word) []heap.Word { return one(w.stringOf(a[0])) },
	}
}

// characterOf returns the character with a code, NIL if there is none.
func characterOf(code heap.Word) heap.Word {
	n, ok := code.Fixnum()
	if !ok || n > utf8.MaxRune || !utf8.ValidRune(rune(n)) {
		return heap.Nil
	}
	c, _ := heap.Char(rune(n))
	return c
}

// cased returns the operation that changes the letters from one on to those from another one on.
func cased(from, to rune) operation {
	return func(a []heap.Word) []heap.Word {
		c, _ := a[0].Character()
		if c < from || c >= from+26 {
			return one(a[0])
		}
		x, _ := heap.Char(c - from + to)
		return one(x)
	}
}

func (w *World) runes(x heap.Word) []rune { return []rune(w.bytes(x)) }

// index returns the number of an element, if it is one of n.
func index(x heap.Word, n int) (int, bool) {
	i, ok := x.Fixnum()
	return int(i), ok && i >= 0 && i < int64(n)
}

func (w *World) characterAt(x, k heap.Word) heap.Word {
	l := w.runes(x)
	i, ok := index(k, len(l))
	if !ok {
		panic(w.wrongType(k, "INTEGER"))
	}
	c, _ := heap.Char(l[i])
	return c
}

// difference returns the index of the first character in which two strings differ, or at which one of them ends.
func difference(x, y []rune) int {
	i := 0
	for i < len(x) && i < len(y) && x[i] == y[i] {
		i++
	}
	return i
}

// length returns the number of elements of a sequence.
func (w *World) length(x heap.Word) int {
	switch {
	case w.isString(x):
		return utf8.RuneCountInString(w.bytes(x))
	case w.isBits(x), w.isVector(x):
		return w.heap.Len(x)
	}
	l, _ := w.elements(x)
	return len(l)
}

func (w *World) subsequence(a []heap.Word) heap.Word {
	x, n := a[0], w.length(a[0])
	from, ok := index(a[1], n+1)
	if !ok {
		panic(w.wrongType(a[1], "INTEGER"))
	}
	to := n
	if len(a) > 2 {
		to, ok = index(a[2], n+1)
		if !ok || to < from {
			panic(w.wrongType(a[2], "INTEGER"))
		}
	}
	switch {
	case w.isString(x):
		return w.text(heap.KindString, string(w.runes(x)[from:to]))
	case w.isBits(x):
		return w.text(heap.KindBits, w.bytes(x)[from:to])
	case w.isVector(x):
		return w.make(heap.KindVector, w.fields(x)[from:to]...)
	}
	l, _ := w.elements(x)
	return w.list(l[from:to], heap.Nil)
}

func (w *World) stringOf(x heap.Word) heap.Word {
	if w.isString(x) {
		return x
	}
	if w.isSymbol(x) {
		return w.nameOf(x)
	}
	c, ok := x.Character()
	if !ok {
		panic(w.wrongType(x, "STRING"))
	}
	return w.text(heap.KindString, string(c))
}
