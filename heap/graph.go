package heap

import "commonform/api"

// Cell is an object of a graph without addresses: its kind, its bytes, and its fields: immediate words, or indices of objects.
type Cell struct {
	Kind   int
	Raw    bool
	Bytes  string
	Fields []Field
}

// Field is an immediate word, or the index of an object (-1: none).
type Field struct {
	Word   Word
	Object int
}

// Indices of objects that are no cells.
const (
	noObject    = -1
	firstObject = -2
)

const maxCells = 20000

// Cells returns what some words have.
func (h *Heap) Cells(words []Word) ([]Cell, []Field, api.Errno) {
	if h.isNone() {
		return nil, nil, api.ErrArg
	}
	for _, w := range words {
		if !h.isRight(w) {
			return nil, nil, ErrWord
		}
	}
	var cells []Cell
	met := map[Word]int{Nil: firstObject}
	var meet func(w Word) Field
	meetAll := func(words []Word) []Field {
		out := make([]Field, len(words))
		for i, w := range words {
			out[i] = meet(w)
		}
		return out
	}
	meet = func(w Word) Field {
		place, x, ok := h.head(w)
		if !ok {
			return Field{w, noObject}
		}
		if i, known := met[w]; known {
			return Field{Object: i}
		}
		i := len(cells)
		met[w] = i
		cells = append(cells, Cell{Kind: x.kind(), Raw: x.isRaw()})
		if x.isRaw() {
			cells[i].Bytes = h.bytes(place, x)
			return Field{Object: i}
		}
		fields := meetAll(h.fields(place))
		cells[i].Fields = fields
		return Field{Object: i}
	}
	fields := meetAll(words)
	return cells, fields, api.OK
}

// Lay makes the objects of a graph.
func (h *Heap) Lay(cells []Cell, words []Field) ([]Word, api.Errno) {
	if h.isNone() || len(cells) > maxCells {
		return nil, api.ErrArg
	}
	size := 0
	for _, c := range cells {
		if e := c.check(len(cells)); e != api.OK {
			return nil, e
		}
		size += c.header().size()
	}
	if e := checkFields(words, len(cells)); e != api.OK {
		return nil, e
	}
	if !h.hasRoom(size) {
		return nil, api.ErrWords
	}
	return h.layCells(cells, words), api.OK
}

// layCells makes the objects of a right graph, for which there is room.
func (h *Heap) layCells(cells []Cell, words []Field) []Word {
	refs := make([]Word, len(cells))
	for i, c := range cells {
		if c.Raw {
			refs[i] = h.addRaw(c.Kind, c.Bytes)
		} else {
			refs[i] = h.add(c.Kind, len(c.Fields))
		}
	}
	word := func(f Field) Word {
		switch f.Object {
		case noObject:
			return f.Word
		case firstObject:
			return Nil
		}
		return refs[f.Object]
	}
	for i, c := range cells {
		place, _ := h.find(refs[i])
		for k, f := range c.Fields {
			h.words[place+1+k] = word(f)
		}
	}
	out := make([]Word, len(words))
	for i, f := range words {
		out[i] = word(f)
	}
	return out
}

func (c Cell) header() header {
	if c.Raw {
		return rawHeaderOf(c.Kind, len(c.Bytes))
	}
	return headerOf(c.Kind, len(c.Fields))
}

// check returns the error of one of n cells.
func (c Cell) check(n int) api.Errno {
	switch {
	case !isKind(c.Kind) || c.Raw && len(c.Bytes) > maxBytes || !c.Raw && len(c.Fields) > maxFields:
		return api.ErrArg
	case c.Raw && len(c.Fields) > 0 || !c.Raw && c.Bytes != "":
		return ErrRaw
	}
	return checkFields(c.Fields, n)
}

// checkFields returns the error of fields beside n cells.
func checkFields(fields []Field, n int) api.Errno {
	for _, f := range fields {
		if f.Object == noObject {
			if !f.Word.isImmediate() {
				return ErrWord
			}
		} else if f.Word != 0 || f.Object < firstObject || f.Object >= n {
			return ErrWord
		}
	}
	return api.OK
}
