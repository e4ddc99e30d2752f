package heap

import (
	"slices"

	"commonform/api"
)

// Keep lays some objects anew as old ones, and some as young ones; all others are gone.
func (h *Heap) Keep(old, young []Word) api.Errno {
	if h.isNone() {
		return api.ErrArg
	}
	all := slices.Concat([]Word{Nil}, old, young)
	m, e := h.move(all)
	if e != api.OK {
		return e
	}
	moved := Heap{limit: h.limit, young: h.young, next: h.next, moves: h.moves + 1, roots: slices.Clone(h.roots)}
	moved.words = make([]Word, 0, m.size)
	for i, w := range all {
		moved.copy(h, w, m)
		if i == len(old) {
			moved.old = len(moved.words)
		}
	}
	for i, r := range moved.roots {
		moved.roots[i].word = m.word(r.word)
	}
	*h = moved
	return api.OK
}

// Moves returns how often Keep has laid objects anew.
func (h *Heap) Moves() int {
	if h == nil {
		return 0
	}
	return h.moves
}

// move says where objects are laid: by their places, the references to the new ones; 0 for those that are gone.
type move struct {
	to   []Word
	size int // of all objects
}

// move returns where objects are laid that stand one behind the other then.
func (h *Heap) move(objects []Word) (move, api.Errno) {
	for _, w := range objects {
		if _, ok := h.find(w); !ok {
			return move{}, ErrWord
		}
	}
	m := move{to: make([]Word, len(h.words))}
	for _, w := range objects {
		place, x, _ := h.head(w)
		if m.to[place] != 0 {
			return move{}, api.ErrTwice
		}
		m.to[place] = reference(m.size)
		m.size += x.size()
	}
	return m, api.OK
}

// word returns what a word is behind the move.
func (m move) word(w Word) Word {
	if !w.IsRef() {
		return w
	}
	if to := m.to[w>>tagBits]; to != 0 {
		return to
	}
	return Unbound
}

// copy puts an object of another heap behind all others.
func (h *Heap) copy(from *Heap, w Word, m move) {
	place, x, _ := from.head(w)
	h.begin(x)
	if x.isRaw() {
		h.words = append(h.words, from.words[place+1:place+x.size()]...)
		return
	}
	for _, field := range from.fields(place) {
		h.words = append(h.words, m.word(field))
	}
}
