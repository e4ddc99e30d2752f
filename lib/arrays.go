package lib

import (
	"slices"

	"commonform/api"
	"commonform/forms"
	"commonform/heap"
	"commonform/table"
)

// mostElements is how many elements an array has at most.
const mostElements = 16384

func arrayRows() []row {
	return []row{
		{"VECTOR", "x.."},
		{"MAKE-ARRAY", "x [x]"},
		{"AREF", "v k.."},
		{"%ASET", "v k.. x"},
		{"ARRAY-DIMENSIONS", "v"},
		{"ARRAY-RANK", "v"},
		{"MAKE-HASH-TABLE", "s"},
		{"GETHASH", "x h [x]"},
		{"%PUTHASH", "x h x"},
		{"REMHASH", "x h"},
		{"CLRHASH", "h"},
		{"HASH-TABLE-COUNT", "h"},
		{"HASH-KEYS", "h"},
	}
}

func (w *World) arrayOperations() map[string]operation {
	return map[string]operation{
		"VECTOR":     func(a []heap.Word) []heap.Word { return one(w.make(heap.KindVector, a...)) },
		"MAKE-ARRAY": func(a []heap.Word) []heap.Word { return one(w.newArray(a)) },
		"AREF": func(a []heap.Word) []heap.Word {
			x, i := w.place("AREF", a[0], a[1:])
			return one(w.element(x, i))
		},
		"%ASET": func(a []heap.Word) []heap.Word {
			last := len(a) - 1
			if w.isString(a[0]) || w.isBits(a[0]) {
				panic(w.wrongType(a[0], "ARRAY"))
			}
			x, i := w.place("%ASET", a[0], a[1:last])
			w.heap.Set(x, i, a[last])
			return one(a[last])
		},
		"ARRAY-DIMENSIONS": func(a []heap.Word) []heap.Word { return one(w.list(fixnums(w.dimensions(a[0])), heap.Nil)) },
		"ARRAY-RANK":       func(a []heap.Word) []heap.Word { return one(fixnum(len(w.dimensions(a[0])))) },
		"MAKE-HASH-TABLE":  func(a []heap.Word) []heap.Word { return one(w.newTable(a[0])) },
		"GETHASH": func(a []heap.Word) []heap.Word {
			x, ok, e := table.Get(w.heap, a[1], a[0])
			w.stored(e, a[1])
			if !ok && len(a) > 2 {
				x = a[2]
			}
			return []heap.Word{x, w.truth(ok)}
		},
		"%PUTHASH": func(a []heap.Word) []heap.Word {
			w.stored(table.Put(w.heap, a[1], a[0], a[2]), a[1])
			return one(a[2])
		},
		"REMHASH": func(a []heap.Word) []heap.Word {
			truth := w.truth(true)
			ok, e := table.Remove(w.heap, a[1], a[0])
			w.stored(e, a[1])
			if !ok {
				truth = heap.Nil
			}
			return one(truth)
		},
		"CLRHASH": func(a []heap.Word) []heap.Word {
			w.stored(table.Clear(w.heap, a[0]), a[0])
			return one(a[0])
		},
		"HASH-TABLE-COUNT": func(a []heap.Word) []heap.Word {
			n, e := table.Count(w.heap, a[0])
			w.stored(e, a[0])
			return one(fixnum(n))
		},
		"HASH-KEYS": func(a []heap.Word) []heap.Word {
			l, e := table.Keys(w.heap, a[0])
			w.stored(e, a[0])
			return one(w.list(l, heap.Nil))
		},
	}
}

// stored panics with what an error of layer 17 means; a table whose fields somebody else changed is none.
func (w *World) stored(e api.Errno, t heap.Word) {
	switch e {
	case api.OK:
	case api.ErrWords:
		panic(limited(e))
	default:
		panic(w.wrongType(t, "HASH-TABLE"))
	}
}

func fixnums(l []int) []heap.Word {
	var out []heap.Word
	for _, n := range l {
		out = append(out, fixnum(n))
	}
	return out
}

// dimensions returns the dimensions of an array.
func (w *World) dimensions(x heap.Word) []int {
	if dims, _, ok := w.arrayOf(x); ok {
		return dims
	}
	return []int{w.length(x)}
}

// place returns the object that has the elements of an array, and the index of one of them.
func (w *World) place(name string, x heap.Word, indices []heap.Word) (heap.Word, int) {
	dims := w.dimensions(x)
	if len(indices) != len(dims) {
		panic(fault("PROGRAM-ERROR", w.lisp(name)))
	}
	at := 0
	for i, k := range indices {
		n, ok := index(k, dims[i])
		if !ok {
			panic(w.wrongType(k, "INTEGER"))
		}
		at = at*dims[i] + n
	}
	if _, elements, ok := w.arrayOf(x); ok {
		return elements, at
	}
	return x, at
}

// element returns the element of an array of one dimension.
func (w *World) element(x heap.Word, i int) heap.Word {
	switch {
	case w.isString(x):
		return w.characterAt(x, fixnum(i))
	case w.isBits(x) && w.bytes(x)[i] == '1':
		return fixnum(1)
	case w.isBits(x):
		return fixnum(0)
	}
	return w.field(x, i)
}

// newArray makes a vector, or an array.
func (w *World) newArray(a []heap.Word) heap.Word {
	l := []heap.Word{a[0]}
	if !w.isOf(a[0], 'k') {
		if !w.isProper(a[0]) {
			panic(w.wrongType(a[0], "LIST"))
		}
		l, _ = w.elements(a[0])
	}
	for _, d := range l {
		if !w.isOf(d, 'k') {
			panic(w.wrongType(a[0], "LIST"))
		}
	}
	count := elementsOf(l)
	if count > mostElements || len(l) > forms.MaxRank {
		panic(limited(api.ErrWords))
	}
	all := heap.Nil
	if len(a) > 1 {
		all = a[1]
	}
	elements := w.make(heap.KindVector, slices.Repeat([]heap.Word{all}, count)...)
	if len(l) == 1 {
		return elements
	}
	return w.make(heap.KindArray, w.make(heap.KindVector, l...), elements)
}

// elementsOf returns how many elements an array has, but at most a number above all that there may be; so it does for a dimension that is no fixnum.
func elementsOf(dims []heap.Word) int {
	const beyond = mostElements + 1
	n := 1
	for _, d := range dims {
		k, ok := d.Fixnum()
		if !ok {
			return beyond
		}
		n = int(min(int64(n)*min(k, beyond), beyond))
	}
	return n
}

func (w *World) newTable(s heap.Word) heap.Word {
	_, name, _ := w.Name(s)
	for test, x := range [...]string{table.Eq: "EQ", table.EqlTest: "EQL", table.EqualTest: "EQUAL", table.EqualpTest: "EQUALP"} {
		if x == name {
			return made(table.New(w.heap, test, false))
		}
	}
	panic(w.wrongType(s, "FUNCTION"))
}
