package lib

import (
	"slices"

	"commonform/api"
	"commonform/format"
	"commonform/forms"
	"commonform/heap"
	"commonform/printer"
	"commonform/reader"
	"commonform/types"
)

func otherRows() []row {
	return []row{
		{"TYPEP", "x x"},
		{"SUBTYPEP", "x x"},
		{"FUNCALL", "g x.."},
		{"APPLY", "g x x.."},
		{"VALUES", "x.."},
		{"IDENTITY", "x"},
		{"PRIN1", "x"},
		{"PRINC", "x"},
		{"PRINT", "x"},
		{"TERPRI", ""},
		{"WRITE-STRING", "t"},
		{"PRIN1-TO-STRING", "x"},
		{"PRINC-TO-STRING", "x"},
		{"READ-FROM-STRING", "t"},
		{"FORMAT", "x t x.."},
	}
}

func (w *World) otherOperations() map[string]operation {
	return map[string]operation{
		"TYPEP":    func(a []heap.Word) []heap.Word { return one(w.typep(a[0], a[1])) },
		"SUBTYPEP": w.subtypep,
		"FUNCALL":  func(a []heap.Word) []heap.Word { return w.called(w.functionOf(a[0]), a[1:]) },
		"APPLY": func(a []heap.Word) []heap.Word {
			f, last := w.functionOf(a[0]), len(a)-1
			l, tail := w.elements(a[last])
			if tail != heap.Nil {
				panic(w.wrongType(a[last], "LIST"))
			}
			return w.called(f, append(slices.Clone(a[1:last]), l...))
		},
		"VALUES":   func(a []heap.Word) []heap.Word { return a },
		"IDENTITY": func(a []heap.Word) []heap.Word { return a },
		"PRIN1":    func(a []heap.Word) []heap.Word { return w.printed(w.textOf(a[0], true), a[0]) },
		"PRINC":    func(a []heap.Word) []heap.Word { return w.printed(w.textOf(a[0], false), a[0]) },
		"PRINT": func(a []heap.Word) []heap.Word {
			return w.printed("\n"+w.textOf(a[0], true)+" ", a[0])
		},
		"TERPRI":       func(a []heap.Word) []heap.Word { return w.printed("\n", heap.Nil) },
		"WRITE-STRING": func(a []heap.Word) []heap.Word { return w.printed(w.bytes(a[0]), a[0]) },
		"PRIN1-TO-STRING": func(a []heap.Word) []heap.Word {
			return one(w.text(heap.KindString, w.textOf(a[0], true)))
		},
		"PRINC-TO-STRING": func(a []heap.Word) []heap.Word {
			return one(w.text(heap.KindString, w.textOf(a[0], false)))
		},
		"READ-FROM-STRING": func(a []heap.Word) []heap.Word { return one(w.readFrom(a[0])) },
		"FORMAT":           w.formatted,
	}
}

// called returns the values of a call, or panics with what else comes of it.
func (w *World) called(f heap.Word, args []heap.Word) []heap.Word {
	x := w.call(f, args)
	if x.Kind != AnswerValues {
		panic(x)
	}
	return x.Values
}

// opaque is what stands for an object without a form.
func opaque() api.Form { return forms.Symbol(opaqueHome, "OBJECT") }

// formOf returns the form of an object.
func (w *World) formOf(x heap.Word) api.Form {
	f, e := w.Show(x)
	if e != api.OK {
		return opaque()
	}
	return f
}

// bare returns the form that stands for an object where types are asked for, if its own one has labels, or numbers that are none of layer 5.
func (w *World) bare(x heap.Word) api.Form {
	if w.isCons(x) {
		return forms.Dotted([]api.Form{opaque()}, opaque())
	}
	return opaque()
}

// typep reports whether an object is of a type.
func (w *World) typep(x, t heap.Word) heap.Word {
	spec := w.formOf(t)
	if types.Check(spec) != api.OK {
		panic(fault("SIMPLE-ERROR", t))
	}
	ok, e := types.Typep(w.formOf(x), spec)
	if e != api.OK {
		ok, _ = types.Typep(w.bare(x), spec)
	}
	return w.truth(ok)
}

func (w *World) subtypep(a []heap.Word) []heap.Word {
	var specs []api.Form
	for _, x := range a {
		f := w.formOf(x)
		if types.Check(f) != api.OK {
			panic(fault("SIMPLE-ERROR", x))
		}
		specs = append(specs, f)
	}
	ok, _, e := types.Subtypep(specs[0], specs[1])
	must(e)
	return []heap.Word{w.truth(ok), w.truth(true)}
}

// textOf returns the text of an object.
func (w *World) textOf(x heap.Word, escape bool) string {
	s, e := printer.Text(w.formOf(x), escape)
	if e != api.OK {
		panic(fault("SIMPLE-ERROR", x))
	}
	return s
}

// printed prints a text, and returns a value.
func (w *World) printed(s string, x heap.Word) []heap.Word {
	must(w.Print(s))
	return one(x)
}

func (w *World) readFrom(t heap.Word) heap.Word {
	r, _, e := reader.One(reader.Standard(userHome), w.bytes(t))
	if e != api.OK {
		panic(fault("PARSE-ERROR", t))
	}
	x, e := w.Build(r.Form)
	switch e {
	case api.OK:
		return x
	case api.ErrWords:
		panic(limited(e))
	}
	panic(fault("PARSE-ERROR", t))
}

func (w *World) formatted(a []heap.Word) []heap.Word {
	var args []api.Form
	for _, x := range a[2:] {
		args = append(args, w.formOf(x))
	}
	s, e := format.Format(w.bytes(a[1]), args)
	if e != api.OK {
		panic(fault("SIMPLE-ERROR", a[1]))
	}
	if a[0] == heap.Nil {
		return one(w.text(heap.KindString, s))
	}
	return w.printed(s, heap.Nil)
}
