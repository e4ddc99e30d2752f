package lib

import (
	"iter"
	"slices"
	"strconv"
	"strings"

	"commonform/api"
	"commonform/forms"
	"commonform/heap"
)

// opaqueHome is the home of symbols that stand for what has no form.
const opaqueHome = "%"

// Show returns the form of an object.
func (w *World) Show(x heap.Word) (api.Form, api.Errno) {
	if w.isNone() {
		return api.Form{}, api.ErrArg
	}
	if !w.isRight(x) {
		return api.Form{}, heap.ErrWord
	}
	s := shower{w: w, times: map[heap.Word]int{}, labels: map[heap.Word]string{}}
	s.meet(x)
	if len(s.times) > maxMet {
		return api.Form{}, api.ErrSize
	}
	f := s.form(x)
	if forms.Check(f) != api.OK {
		return api.Form{}, api.ErrSize
	}
	return f, api.OK
}

// maxMet is how many objects with identity a right form may have: each cons has a node for its car, and each other one is a node.
const maxMet = 2 * api.MaxForm

// shower makes forms of objects.
type shower struct {
	w      *World
	times  map[heap.Word]int // how often objects with identity are met
	labels map[heap.Word]string
	nodes  int
}

// hasIdentity reports whether an object is another one than others with the same parts.
func (s *shower) hasIdentity(x heap.Word) bool {
	_, _, isArray := s.w.arrayOf(x)
	return isArray || s.w.isCons(x) || s.w.isVector(x) || s.w.isString(x) || s.w.isBits(x)
}

// parts walks the parts of an object with identity.
func (s *shower) parts(x heap.Word) iter.Seq[heap.Word] {
	return func(yield func(heap.Word) bool) {
		if _, elements, ok := s.w.arrayOf(x); ok {
			x = elements
		}
		if !s.w.hasFields(x) {
			return
		}
		for _, y := range s.w.fields(x) {
			if !yield(y) {
				return
			}
		}
	}
}

// meet counts an object, and those that are met from it, unless they are too many.
func (s *shower) meet(x heap.Word) {
	if len(s.times) > maxMet || !s.hasIdentity(x) {
		return
	}
	s.times[x]++
	if s.times[x] > 1 {
		return
	}
	for y := range s.parts(x) {
		s.meet(y)
	}
}

// form returns the form of an object. Behind too many nodes it returns none, so that the whole is not right.
func (s *shower) form(x heap.Word) api.Form {
	s.nodes++
	if s.nodes > api.MaxForm {
		return api.Form{}
	}
	if label, ok := s.labels[x]; ok {
		return api.Form{Kind: api.FormRef, Text: label}
	}
	if s.times[x] < 2 {
		return s.object(x)
	}
	label := strconv.Itoa(len(s.labels))
	s.labels[x] = label
	return api.Form{Kind: api.FormLabel, Text: label, Kids: []api.Form{s.object(x)}}
}

// object returns the form of an object without its label.
func (s *shower) object(x heap.Word) api.Form {
	if !s.hasIdentity(x) {
		return s.w.atom(x)
	}
	kind := s.w.heap.Kind(x)
	out := api.Form{Kind: kind}
	switch kind {
	case heap.KindString, heap.KindBits:
		out.Text = s.w.bytes(x)
	case heap.KindCons:
		out.Kids = s.list(x)
	default:
		dims, _, _ := s.w.arrayOf(x)
		out.Text = numerals(dims)
		out.Kids = s.all(slices.Collect(s.parts(x)))
	}
	return out
}

func numerals(l []int) string {
	var out []string
	for _, n := range l {
		out = append(out, strconv.Itoa(n))
	}
	return strings.Join(out, " ")
}

func (s *shower) all(l []heap.Word) []api.Form {
	var out []api.Form
	for _, x := range l {
		if s.nodes > api.MaxForm {
			break
		}
		out = append(out, s.form(x))
	}
	return out
}

// list returns the elements and the tail of a list, which ends ahead of a cons that is met several times.
func (s *shower) list(x heap.Word) []api.Form {
	var out []api.Form
	for s.nodes <= api.MaxForm {
		out = append(out, s.form(s.w.field(x, 0)))
		x = s.w.field(x, 1)
		if !s.w.isCons(x) || s.times[x] > 1 {
			break
		}
	}
	return append(out, s.form(x))
}

// atom returns the form of a word that is no object with identity.
func (w *World) atom(x heap.Word) api.Form {
	if c, ok := x.Character(); ok {
		return api.Form{Kind: api.FormChar, Text: string(c)}
	}
	if f := w.numberForm(x); f.Kind != 0 {
		return f
	}
	if home, name, e := w.Name(x); e == api.OK {
		return forms.Symbol(home, name)
	}
	return forms.Symbol(opaqueHome, w.opaqueName(x))
}

// opaqueName returns how a word is named that has no form.
func (w *World) opaqueName(x heap.Word) string {
	switch w.heap.Kind(x) {
	case heap.KindTable:
		return "TABLE"
	case heap.KindEntry:
		return "ENTRY"
	case heap.KindClosure, heap.KindCode:
		return "CLOSURE"
	case heap.KindBuiltin:
		return "BUILTIN"
	case heap.KindClass:
		return "CLASS"
	case heap.KindInstance:
		return "INSTANCE"
	case heap.KindGeneric:
		return "GENERIC"
	case heap.KindMethod:
		return "METHOD"
	case heap.KindWeak:
		return "WEAK"
	case heap.KindPackage:
		return "PACKAGE"
	case heap.KindBox:
		return "BOX"
	case heap.KindEphemeron:
		return "EPHEMERON"
	}
	if x == heap.Unbound {
		return "UNBOUND"
	}
	return "OBJECT"
}

// numberForm returns the form of a number; of all others a form that is none.
func (w *World) numberForm(x heap.Word) api.Form {
	if n, ok := x.Fixnum(); ok {
		return whole(n)
	}
	if !w.isNumber(x, heap.KindInt, heap.KindComplex) {
		return api.Form{}
	}
	kind := w.heap.Kind(x)
	if kind != heap.KindComplex {
		text, e := w.heap.Bytes(x)
		if e != api.OK {
			return api.Form{}
		}
		return api.Form{Kind: kind, Text: text}
	}
	out := api.Form{Kind: kind}
	for _, part := range w.fields(x) {
		if w.heap.Kind(part) == heap.KindComplex { // no part of a number, and maybe x itself
			return api.Form{}
		}
		out.Kids = append(out.Kids, w.numberForm(part))
	}
	return out
}

// numberObject returns the object of a number's form.
func (w *World) numberObject(f api.Form) heap.Word {
	if x, ok := fixnumOf(f); ok {
		return x
	}
	if f.Kind == api.FormComplex {
		return w.make(heap.KindComplex, w.numberObject(f.Kids[0]), w.numberObject(f.Kids[1]))
	}
	return w.text(f.Kind, f.Text)
}
