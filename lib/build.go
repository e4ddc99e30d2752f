package lib

import (
	"strconv"

	"commonform/api"
	"commonform/forms"
	"commonform/heap"
	"commonform/notation"
	"commonform/symbols"
)

// maxBytes is how many bytes an object of a heap has at most.
const maxBytes = 131072

// Build makes the object of a form.
func (w *World) Build(f api.Form) (heap.Word, api.Errno) {
	if w.isNone() {
		return 0, api.ErrArg
	}
	if e := forms.Check(f); e != api.OK {
		return 0, e
	}
	p := plan{w: w, homes: map[string]string{}, met: map[[2]string]bool{}, numbers: map[int]bool{}}
	if e := p.node(f); e != api.OK {
		return 0, e
	}
	if !w.hasRoom(p.words) {
		return 0, api.ErrWords
	}
	if w.isFull(p.symbols) {
		return 0, api.ErrFull
	}
	m := maker{w: w, labels: map[string]heap.Word{}, fresh: map[string]heap.Word{}}
	return m.object(f, func(heap.Word) {}), api.OK
}

// plan counts the words of all objects that are to be made, and the symbols that the table does not have.
type plan struct {
	w              *World
	words, symbols int
	homes          map[string]string  // the names of packages by what means them
	met            map[[2]string]bool // new symbols
	numbers        map[int]bool       // symbols of the table
}

// node counts what a form is made of, and returns the first error of a symbol.
func (p *plan) node(f api.Form) api.Errno {
	switch f.Kind {
	case api.FormSymbol:
		return p.symbol(f)
	case api.FormInt, api.FormRatio, api.FormSingle, api.FormDouble, api.FormString, api.FormBits:
		p.text(f)
	case api.FormComplex, api.FormVector:
		p.words += 1 + len(f.Kids)
	case api.FormCons:
		p.words += 3 * (len(f.Kids) - 1)
	case api.FormArray:
		p.words += 3 + 1 + len(notation.Dimensions(f.Text)) + 1 + len(f.Kids)
	}
	for _, kid := range f.Kids {
		if e := p.node(kid); e != api.OK {
			return e
		}
	}
	return api.OK
}

func (p *plan) text(f api.Form) {
	if _, ok := fixnumOf(f); ok {
		return
	}
	p.words += rawSize(f.Text)
	if len(f.Text) > maxBytes { // no room of any size would do
		p.words += api.MaxWords
	}
}

// fixnumOf returns the fixnum of a form, if there is one.
func fixnumOf(f api.Form) (heap.Word, bool) {
	if f.Kind != api.FormInt {
		return 0, false
	}
	n, err := strconv.ParseInt(f.Text, 10, 64)
	x, e := heap.Fix(n)
	return x, err == nil && e == api.OK
}

func (p *plan) symbol(f api.Form) api.Errno {
	if len(f.Text) > api.MaxName {
		return api.ErrSize
	}
	if f.Home == "" {
		p.add(f)
		return api.OK
	}
	number, status, e := p.w.table.Find(f.Home, f.Text)
	switch {
	case e != api.OK:
		return e
	case status == symbols.None:
		f.Home = p.name(f.Home)
		p.add(f)
	case !p.numbers[number]:
		p.numbers[number] = true
		p.words += p.w.missing(number)
	}
	return api.OK
}

// name returns the name of the package that a name or a nickname means.
func (p *plan) name(home string) string {
	name, ok := p.homes[home]
	if !ok {
		pack, _ := p.w.table.Package(home)
		name = pack.Name
		p.homes[home] = name
	}
	return name
}

// add counts a symbol that the table does not have.
func (p *plan) add(f api.Form) {
	if key := [2]string{f.Home, f.Text}; !p.met[key] {
		p.met[key] = true
		p.symbols++
		p.words += symbolSize(f.Text)
	}
}

// maker makes objects for which there is room.
type maker struct {
	w             *World
	labels, fresh map[string]heap.Word
}

// object makes the object of a form; met is told of it ahead of its parts, which may lead back to it.
func (m *maker) object(f api.Form, met func(heap.Word)) heap.Word {
	if f.Kind == api.FormCons {
		return m.list(f, met)
	}
	var x heap.Word
	switch f.Kind {
	case api.FormLabel:
		return m.object(f.Kids[0], func(x heap.Word) { m.labels[f.Text] = x })
	case api.FormRef:
		return m.labels[f.Text]
	case api.FormSymbol:
		x = m.symbol(f)
	case api.FormChar:
		for _, c := range f.Text {
			x, _ = heap.Char(c)
		}
	case api.FormComplex, api.FormVector:
		x, _ = m.w.heap.New(f.Kind, len(f.Kids))
	case api.FormArray:
		x, _ = m.w.heap.New(heap.KindArray, 2)
	default:
		x = m.text(f)
	}
	met(x)
	switch f.Kind {
	case api.FormComplex, api.FormVector:
		m.fill(x, f.Kids)
	case api.FormArray:
		m.array(x, f)
	}
	return x
}

func (m *maker) symbol(f api.Form) heap.Word {
	if f.Home != "" {
		x, _ := m.w.Symbol(f.Home, f.Text)
		return x
	}
	x, ok := m.fresh[f.Text]
	if !ok {
		x, _ = m.w.fresh(f.Text)
		m.fresh[f.Text] = x
	}
	return x
}

func (m *maker) text(f api.Form) heap.Word {
	if x, ok := fixnumOf(f); ok {
		return x
	}
	x, _ := m.w.heap.Raw(f.Kind, f.Text)
	return x
}

func (m *maker) list(f api.Form, met func(heap.Word)) heap.Word {
	var first, last heap.Word
	for i, kid := range f.Kids[:len(f.Kids)-1] {
		c, _ := m.w.heap.New(heap.KindCons, 2)
		if i == 0 {
			first = c
			met(c)
		} else {
			m.w.heap.Set(last, 1, c)
		}
		last = c
		m.w.heap.Set(c, 0, m.part(kid))
	}
	m.w.heap.Set(last, 1, m.part(f.Kids[len(f.Kids)-1]))
	return first
}

func (m *maker) part(f api.Form) heap.Word { return m.object(f, func(heap.Word) {}) }

// fill makes the objects of forms the fields of one.
func (m *maker) fill(x heap.Word, l []api.Form) {
	for i, f := range l {
		m.w.heap.Set(x, i, m.part(f))
	}
}

func (m *maker) array(x heap.Word, f api.Form) {
	l := notation.Dimensions(f.Text)
	dims, _ := m.w.heap.New(heap.KindVector, len(l))
	for i, d := range l {
		n, _ := heap.Fix(int64(d))
		m.w.heap.Set(dims, i, n)
	}
	elements, _ := m.w.heap.New(heap.KindVector, len(f.Kids))
	m.w.heap.Set(x, 0, dims)
	m.w.heap.Set(x, 1, elements)
	m.fill(elements, f.Kids)
}
