package printer

import (
	"iter"
	"slices"
	"strconv"
	"strings"
	"unicode/utf8"

	"commonform/api"
	"commonform/forms"
	"commonform/notation"
	"commonform/number"
	"commonform/token"
)

// Print returns the text of a form.
func Print(o Options, f api.Form) (string, api.Errno) {
	if e := Check(o); e != api.OK {
		return "", e
	}
	if e := forms.Check(f); e != api.OK {
		return "", e
	}
	if o.Readable && slices.ContainsFunc(o.Table.Entries, isNeeded) {
		return "", ErrReadable
	}
	unlabelled := forms.Plain
	if o.Circle {
		unlabelled = forms.Normal
	}
	f, e := unlabelled(f)
	if e != api.OK {
		return "", e
	}
	return printed(o, f)
}

// isNeeded reports whether texts are read back only if a character is of its standard kind.
func isNeeded(x token.Entry) bool {
	switch token.Standard(x.Char) {
	case token.White, token.Terminating, token.Nonterminating:
		return true
	}
	return x.Char >= 'a' && x.Char <= 'z' || x.Char >= 'A' && x.Char <= 'Z' || x.Char >= '0' && x.Char <= '9' || strings.ContainsRune(".:+-/", x.Char)
}

// printed returns the text of a form whose labels are as they are to be written.
func printed(o Options, f api.Form) (s string, e api.Errno) {
	defer func() {
		if code, ok := recover().(api.Errno); ok {
			s, e = "", code
		}
	}()
	w := writer{Options: o}
	w.form(f, 0, 0)
	return w.out.String(), api.OK
}

// writer writes a form; it panics with an error.
type writer struct {
	Options
	out strings.Builder
}

// write appends a text, of which there may be an error.
func (w *writer) write(s string, e api.Errno) {
	if e == api.OK && w.out.Len()+len(s) > maxText {
		e = api.ErrLarge
	}
	if e != api.OK {
		panic(e)
	}
	w.out.WriteString(s)
}

func (w *writer) put(s string) { w.write(s, api.OK) }

// form writes a form in a level, and in a depth of backquotes.
func (w *writer) form(f api.Form, level, depth int) {
kinds:
	switch f.Kind {
	case api.FormLabel:
		w.put("#" + f.Text + "=")
		w.form(f.Kids[0], level, depth)
	case api.FormRef:
		w.put("#" + f.Text + "#")
	case api.FormCons:
		if prefix, change := notation.Abbreviation(f, depth); w.Abbrev && prefix != "" {
			w.abbreviated(prefix, f.Kids[1], level, depth+change)
			break kinds
		}
		w.list(f, level, depth)
	case api.FormBits, api.FormVector, api.FormArray:
		if !w.Array {
			w.hidden(f.Kind)
			break kinds
		}
		w.array(f, level, depth)
	default:
		w.write(w.atom(f))
	}
}

// atom returns the text of a symbol, a character, a string or a number, or its error; of all others no text.
func (w *writer) atom(f api.Form) (string, api.Errno) {
	switch f.Kind {
	case api.FormSymbol:
		return w.symbol(f)
	case api.FormChar:
		c, _ := utf8.DecodeRuneInString(f.Text)
		return w.character(c), api.OK
	case api.FormString:
		return w.text(f.Text)
	}
	return number.Print(f, w.Base, w.Radix, w.Double)
}

func (w *writer) abbreviated(prefix string, f api.Form, level, depth int) {
	w.put(prefix)
	if s, _ := w.atom(f); prefix == "," && strings.HasPrefix(s, "@") {
		w.put(" ") // else the @ would belong to the comma
	}
	w.form(f, level, depth)
}

func (w *writer) hidden(kind int) {
	if w.Readable {
		panic(ErrReadable)
	}
	switch kind {
	case api.FormBits:
		w.put("#<BIT-VECTOR>")
	case api.FormVector:
		w.put("#<VECTOR>")
	default:
		w.put("#<ARRAY>")
	}
}

func (w *writer) list(f api.Form, level, depth int) {
	last := len(f.Kids) - 1
	w.parts("(", level, w.elements(f.Kids[:last], level+1, depth), func() {
		if tail := f.Kids[last]; !forms.IsNil(tail) {
			w.put(" . ")
			w.form(tail, level+1, depth)
		}
	})
}

// parts writes a list with what is in front of it, its parts, and what stands behind them, as far as the limits allow it.
func (w *writer) parts(open string, level int, parts iter.Seq[func()], behind func()) {
	if level == w.Level {
		w.put("#")
		return
	}
	w.put(open)
	i := 0
	for part := range parts {
		if i > 0 {
			w.put(" ")
		}
		if i == w.Length {
			w.put("...")
			behind = nothing
			break
		}
		part()
		i++
	}
	behind()
	w.put(")")
}

func nothing() {}

// elements comes to what writes each form of a list.
func (w *writer) elements(l []api.Form, level, depth int) iter.Seq[func()] {
	return func(yield func(func()) bool) {
		for _, x := range l {
			if !yield(func() { w.form(x, level, depth) }) {
				return
			}
		}
	}
}

// rows comes to what writes the contents for each index of the first dimension.
func (w *writer) rows(l []api.Form, dimensions []int, level, depth int) iter.Seq[func()] {
	if len(dimensions) == 1 {
		return w.elements(l, level, depth)
	}
	return func(yield func(func()) bool) {
		for i := range dimensions[0] {
			size := len(l) / dimensions[0]
			row := l[i*size : (i+1)*size]
			if !yield(func() { w.parts("(", level, w.rows(row, dimensions[1:], level+1, depth), nothing) }) {
				return
			}
		}
	}
}

func (w *writer) array(f api.Form, level, depth int) {
	switch f.Kind {
	case api.FormBits:
		w.put("#*" + f.Text)
		return
	case api.FormVector:
		w.parts("#(", level, w.elements(f.Kids, level+1, depth), nothing)
		return
	}
	dimensions := notation.Dimensions(f.Text)
	if w.Readable && isHidden(dimensions) {
		panic(ErrReadable)
	}
	w.put("#" + strconv.Itoa(len(dimensions)) + "A")
	if len(dimensions) == 0 {
		w.form(f.Kids[0], level, depth)
		return
	}
	w.parts("(", level, w.rows(f.Kids, dimensions, level+1, depth), nothing)
}

// isHidden reports whether contents do not tell all dimensions: those behind a 0 are not seen.
func isHidden(dimensions []int) bool {
	i := slices.Index(dimensions, 0)
	return i >= 0 && slices.ContainsFunc(dimensions[i:], func(d int) bool { return d != 0 })
}

// Text returns the text of a form with the usual options, with or without escapes.
func Text(f api.Form, escape bool) (string, api.Errno) {
	o := Standard(commonLisp + "-USER")
	o.Uses = []string{commonLisp}
	o.Circle = true
	o.Escape = escape
	return Print(o, f)
}

// Lines returns the texts of forms, each with a line feed behind it.
func Lines(o Options, l []api.Form) (string, api.Errno) {
	if e := Check(o); e != api.OK {
		return "", e
	}
	var out strings.Builder
	isLarge := false
	for _, f := range l {
		s, e := Print(o, f)
		if e != api.OK {
			return "", e
		}
		isLarge = isLarge || out.Len()+len(s)+1 > maxText
		if !isLarge {
			out.WriteString(s + "\n")
		}
	}
	if isLarge {
		return "", api.ErrLarge
	}
	return out.String(), api.OK
}
