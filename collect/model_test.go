package collect_test

import (
	"math/rand/v2"
	"reflect"
	"slices"
	"strconv"
	"testing"

	"commonform/api"
	"commonform/collect"
	"commonform/heap"
)

// seen is what a heap tells of an object, with names in place of references, which objects keep when they are moved.
type seen struct {
	name, kind int
	bytes      string
	fields     []string
}

// model follows the objects of a heap, and says by the definitions what a collection does.
type model struct {
	h       *heap.Heap
	c       *collect.Collector
	names   map[heap.Word]int
	next    int
	aged    map[int]bool // the names of young objects that a collection kept
	watches [][2]int     // names and ids
	ended   []int
}

func newModel(t *testing.T, limit, young int) *model {
	h, c := collector(t, limit, young)
	return &model{h: h, c: c, names: map[heap.Word]int{heap.Nil: 0}, next: 1, aged: map[int]bool{}}
}

// nameNew names the objects that have no name.
func (m *model) nameNew() {
	for _, w := range m.h.Objects() {
		if _, ok := m.names[w]; !ok {
			m.names[w] = m.next
			m.next++
		}
	}
}

func (m *model) fields(w heap.Word) []heap.Word {
	var out []heap.Word
	for i := range m.h.Len(w) {
		if x, e := m.h.Get(w, i); e == api.OK {
			out = append(out, x)
		}
	}
	return out
}

func (m *model) isPair(w heap.Word) bool {
	return m.h.Kind(w) == heap.KindEphemeron && len(m.fields(w)) >= 2
}

func (m *model) strong(w heap.Word) []heap.Word {
	switch {
	case m.h.Kind(w) == heap.KindWeak:
		return nil
	case m.isPair(w):
		return m.fields(w)[2:]
	}
	return m.fields(w)
}

// reached goes through all objects until nothing new is found.
func (m *model) reached(words []heap.Word) map[heap.Word]bool {
	met := map[heap.Word]bool{}
	meet := func(words []heap.Word) {
		for _, w := range words {
			if w.IsRef() {
				met[w] = true
			}
		}
	}
	meet(words)
	for before := -1; before != len(met); {
		before = len(met)
		for _, w := range m.h.Objects() {
			if !met[w] {
				continue
			}
			meet(m.strong(w))
			if f := m.fields(w); m.isPair(w) && (!f[0].IsRef() || met[f[0]]) {
				meet(f[1:2])
			}
		}
	}
	return met
}

func (m *model) roots() []heap.Word {
	out := []heap.Word{heap.Nil}
	for _, n := range m.h.Roots() {
		w, _ := m.h.At(n)
		out = append(out, w)
	}
	return out
}

// text shows a word, as it is when only some objects are left.
func (m *model) text(w heap.Word, left map[heap.Word]bool) string {
	switch {
	case !w.IsRef():
		return strconv.FormatUint(uint64(w), 10)
	case !left[w]:
		return "2"
	}
	return "object " + strconv.Itoa(m.names[w])
}

// see shows an object, as it is when only some objects are left, and whether it lost one.
func (m *model) see(w heap.Word, left map[heap.Word]bool) (seen, bool) {
	bytes, _ := m.h.Bytes(w)
	out := seen{name: m.names[w], kind: m.h.Kind(w), bytes: bytes}
	fields := m.fields(w)
	for _, f := range fields {
		out.fields = append(out.fields, m.text(f, left))
	}
	lost := false
	if m.isPair(w) || m.h.Kind(w) == heap.KindWeak && len(fields) > 0 {
		lost = fields[0].IsRef() && !left[fields[0]]
	}
	if lost && m.isPair(w) {
		out.fields[1] = "2"
	}
	return out, lost
}

// collect lets the collector collect, and compares what it did with the definitions.
func (m *model) collect(t *testing.T, major bool) {
	t.Helper()
	m.nameNew()
	words := m.roots()
	left := m.reached(words)
	if l := m.c.Live(); !slices.Equal(l, slices.DeleteFunc(m.h.Objects(), func(w heap.Word) bool { return !left[w] })) {
		t.Fatalf("Live = %v", l)
	}
	if !major {
		for _, w := range m.h.Objects() {
			if m.h.Place(w) < m.h.Old() {
				words = append(words, w)
			}
		}
		left = m.reached(words)
	}
	x := want{Major: major, Before: m.h.Used()}
	var order []seen
	var young []seen
	var rooted []string
	for _, w := range m.h.Objects() {
		if !left[w] {
			continue
		}
		o, lost := m.see(w, left)
		if lost {
			x.Lost++
		}
		switch {
		case m.h.Place(w) < m.h.Old():
			order = append(order, o)
		case m.aged[o.name]:
			order = append(order, o)
			x.Promoted++
		default:
			young = append(young, o)
		}
	}
	for _, w := range m.roots() {
		rooted = append(rooted, m.text(w, left))
	}
	old := len(order)
	order = append(order, young...)
	collect := m.c.Minor
	if major {
		collect = m.c.Major
	}
	report, e := collect()
	x.After = m.h.Used()
	x.check(t, report, e)
	m.compare(t, order, old, rooted)
	m.watched(t)
}

// compare compares the heap with the objects that should be there, and gives them their names.
func (m *model) compare(t *testing.T, order []seen, old int, rooted []string) {
	t.Helper()
	objects := m.h.Objects()
	if len(objects) != len(order) {
		t.Fatalf("%d objects, not %d", len(objects), len(order))
	}
	m.names, m.aged = map[heap.Word]int{}, map[int]bool{}
	all := map[heap.Word]bool{}
	for i, w := range objects {
		m.names[w] = order[i].name
		m.aged[order[i].name] = i >= old
		all[w] = true
	}
	for i, w := range objects {
		if o, _ := m.see(w, all); !reflect.DeepEqual(o, order[i]) {
			t.Fatalf("the object %d is %v, not %v", w, o, order[i])
		}
		if (m.h.Place(w) < m.h.Old()) != (i < old) {
			t.Fatalf("the object %v is in the wrong space", order[i])
		}
	}
	var got []string
	for _, w := range m.roots() {
		got = append(got, m.text(w, all))
	}
	if !slices.Equal(got, rooted) {
		t.Fatalf("the roots have %v, not %v", got, rooted)
	}
}

// watched compares the watchers.
func (m *model) watched(t *testing.T) {
	t.Helper()
	var waiting []int
	var left [][2]int
	for _, x := range m.watches {
		if _, ok := m.aged[x[0]]; ok {
			waiting, left = append(waiting, x[1]), append(left, x)
		} else {
			m.ended = append(m.ended, x[1])
		}
	}
	m.watches = left
	if !slices.Equal(m.c.Watched(), waiting) {
		t.Fatalf("Watched = %v, not %v", m.c.Watched(), waiting)
	}
}

func (m *model) anyWord(r *rand.Rand) heap.Word {
	if r.IntN(4) == 0 {
		return fix(int64(r.IntN(9)))
	}
	l := m.h.Objects()
	return l[r.IntN(len(l))]
}

// change does something with the heap.
func (m *model) change(t *testing.T, r *rand.Rand) {
	kinds := []int{heap.KindCons, heap.KindWeak, heap.KindEphemeron, heap.KindEphemeron, heap.KindEphemeron, heap.KindVector}
	switch r.IntN(13) {
	case 0, 1, 2, 3, 4, 5, 6:
		w, e := m.h.New(kinds[r.IntN(len(kinds))], r.IntN(5))
		for i := range m.h.Len(w) {
			m.h.Set(w, i, m.anyWord(r))
		}
		if e == api.OK && r.IntN(3) == 0 {
			m.h.Root(w)
		}
	case 7:
		m.h.Raw(kinds[r.IntN(len(kinds))], "some bytes"[r.IntN(10):])
	case 8, 9:
		m.h.Set(m.anyWord(r), r.IntN(4), m.anyWord(r))
	case 10, 11:
		if l := m.h.Roots(); len(l) > 0 {
			m.h.Drop(l[r.IntN(len(l))])
		}
	default:
		m.nameNew()
		w := m.anyWord(r)
		if e := m.c.Watch(w, r.IntN(5)); e == api.OK {
			m.watches = append(m.watches, [2]int{m.names[w], m.c.Watched()[len(m.watches)]})
		}
	}
}

// P16.1 to P16.5: whatever is done, collections do what the definitions say.
func TestP16_1Model(t *testing.T) {
	for seed := range uint64(500) {
		r := rand.New(rand.NewPCG(seed, 16))
		m := newModel(t, 1000, 100)
		for range 200 {
			m.change(t, r)
			if r.IntN(20) == 0 {
				m.collect(t, r.IntN(2) == 0)
			}
			if r.IntN(20) == 0 {
				if l := m.c.Ended(); !slices.Equal(l, m.ended) {
					t.Fatalf("Ended = %v, not %v", l, m.ended)
				}
				m.ended = nil
			}
		}
	}
}

// P16.3: what is kept by two collections is old, and a second Major lets nothing go.
func TestP16_3Generations(t *testing.T) {
	for seed := range uint64(200) {
		r := rand.New(rand.NewPCG(seed, 163))
		m := newModel(t, 400, 100)
		for range 60 {
			m.change(t, r)
		}
		first, e := m.c.Major()
		second, f := m.c.Major()
		if e != api.OK || f != api.OK || second.Before != first.After || second.After != first.After || second.Lost != 0 {
			t.Fatalf("%+v, %v, and then %+v, %v", first, e, second, f)
		}
		if m.h.Old() != m.h.Used() {
			t.Fatalf("Old %d, Used %d", m.h.Old(), m.h.Used())
		}
	}
}

// player does the same things with a heap, wherever they are: it knows objects by their roots alone.
type player struct {
	h *heap.Heap
	c *collect.Collector
}

func (p player) play(r *rand.Rand, n int) {
	word := func() heap.Word {
		l := p.h.Roots()
		if len(l) == 0 || r.IntN(5) == 0 {
			return fix(int64(r.IntN(9)))
		}
		w, _ := p.h.At(l[r.IntN(len(l))])
		return w
	}
	for range n {
		switch r.IntN(7) {
		case 0, 1:
			if w, e := p.h.New(heap.KindVector, r.IntN(4)); e == api.OK {
				p.h.Root(w)
			}
		case 2:
			if w, e := p.h.Raw(heap.KindString, "text"[r.IntN(4):]); e == api.OK {
				p.h.Root(w)
			}
		case 3, 4:
			to, i, x := word(), r.IntN(3), word()
			p.h.Set(to, i, x)
		case 5:
			if x, e := p.h.Get(word(), r.IntN(3)); e == api.OK {
				p.h.Root(x)
			}
		default:
			if l := p.h.Roots(); len(l) > 3 {
				p.h.Drop(l[r.IntN(len(l))])
			}
		}
	}
}

func (p player) cells() ([]heap.Cell, []heap.Field) {
	var words []heap.Word
	for _, n := range p.h.Roots() {
		w, _ := p.h.At(n)
		words = append(words, w)
	}
	cells, fields, _ := p.h.Cells(words)
	return cells, fields
}

// P16.6: collections at any places of a run change nothing that Cells of the roots tell in the end.
func TestP16_6When(t *testing.T) {
	for seed := range uint64(150) {
		when := rand.New(rand.NewPCG(seed, 166))
		var cells [2][]heap.Cell
		var fields [2][]heap.Field
		for i := range 2 {
			h, c := collector(t, 65536, 30)
			p := player{h, c}
			r := rand.New(rand.NewPCG(seed, 6))
			for range 60 {
				p.play(r, 5)
				switch x := when.IntN(6); {
				case i == 0:
				case x == 0:
					c.Major()
				case x == 1:
					c.Minor()
				case x == 2:
					c.Step()
				}
			}
			cells[i], fields[i] = p.cells()
		}
		if !reflect.DeepEqual(cells[0], cells[1]) || !reflect.DeepEqual(fields[0], fields[1]) {
			t.Fatalf("%v, %v; with collections %v, %v", cells[0], fields[0], cells[1], fields[1])
		}
	}
}
