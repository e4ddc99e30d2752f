package collect

import (
	"iter"

	"commonform/api"
	"commonform/heap"
)

// search finds the objects that are reached from some words.
type search struct {
	h       *heap.Heap
	met     map[heap.Word]bool
	queue   []heap.Word               // all that are met; the order plays no part
	waiting map[heap.Word][]heap.Word // the values of ephemerons, by the keys that were not met so far
}

// reached returns the objects that are reached from some words.
func reached(h *heap.Heap, words []heap.Word) map[heap.Word]bool {
	s := search{h: h, met: map[heap.Word]bool{}, waiting: map[heap.Word][]heap.Word{}}
	for _, w := range words {
		s.meet(w)
	}
	s.run()
	return s.met
}

func (s *search) meet(w heap.Word) {
	if w.IsRef() && !s.met[w] {
		s.met[w] = true
		s.queue = append(s.queue, w)
	}
}

// run goes on until nothing new is reached. Only the ephemerons of a key that was reached since are asked again: a long chain of them would take too long otherwise.
func (s *search) run() {
	looked, asked := 0, 0
again:
	for {
		for ; looked < len(s.queue); looked++ {
			s.look(s.queue[looked])
		}
		for asked < len(s.queue) {
			values := s.waiting[s.queue[asked]]
			asked++
			for _, v := range values {
				s.meet(v)
			}
			if looked < len(s.queue) {
				continue again
			}
		}
		break
	}
}

// look meets what an object that is reached holds.
func (s *search) look(w heap.Word) {
	for part := range strong(s.h, w) {
		s.meet(part)
	}
	key, value, ok := pair(s.h, w)
	switch {
	case !ok:
	case !key.IsRef() || s.met[key]:
		s.meet(value)
	default:
		s.waiting[key] = append(s.waiting[key], value)
	}
}

// strong walks the words of the fields of an object by which it holds others.
func strong(h *heap.Heap, w heap.Word) iter.Seq[heap.Word] {
	first := 0
	if h.Kind(w) == heap.KindWeak {
		first = h.Len(w)
	} else if _, _, ok := pair(h, w); ok {
		first = 2
	}
	return func(yield func(heap.Word) bool) {
		for i := first; ; i++ {
			part, e := h.Get(w, i)
			if e != api.OK || !yield(part) { // an object with bytes has no fields
				return
			}
		}
	}
}

// pair returns the key and the value of an ephemeron, and whether w is one.
func pair(h *heap.Heap, w heap.Word) (key, value heap.Word, ok bool) {
	if h.Kind(w) != heap.KindEphemeron {
		return 0, 0, false
	}
	value, e := h.Get(w, 1)
	if e != api.OK {
		return 0, 0, false
	}
	key, _ = h.Get(w, 0)
	return key, value, true
}

// lose counts the weak references and the keys of live objects that are lost, and takes their values from ephemerons: they may live on without the key.
func lose(h *heap.Heap, live map[heap.Word]bool) int {
	lost := 0
	isLost := func(w heap.Word) bool { return w.IsRef() && !live[w] }
	for _, w := range h.Objects() {
		if !live[w] {
			continue
		}
		if h.Kind(w) == heap.KindWeak {
			if to, e := h.Get(w, 0); e == api.OK && isLost(to) {
				lost++
			}
		} else if key, _, ok := pair(h, w); ok && isLost(key) {
			lost++
			h.Set(w, 1, heap.Unbound)
		}
	}
	return lost
}
