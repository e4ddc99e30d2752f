package heap_test

import (
	"math/rand/v2"
	"slices"
	"strings"
	"testing"

	"commonform/api"
	"commonform/heap"
)

// value is a word without places: an immediate word, or an object.
type value struct {
	word heap.Word
	to   *thing
}

// thing is an object of the model.
type thing struct {
	kind   int
	raw    bool
	bytes  string
	fields []value
}

func (o *thing) size() int {
	if o.raw {
		return 1 + (len(o.bytes)+7)/8
	}
	return 1 + len(o.fields)
}

// model has the objects of a heap by their definition, and runs beside it.
type model struct {
	h            *heap.Heap
	limit, young int
	objects      []*thing
	old          int // how many objects are old
	roots        map[int]value
	next, moves  int
}

func newModel(t *testing.T, limit, young int) *model {
	m := &model{h: empty(t, limit, young), limit: limit, young: young, old: 1, roots: map[int]value{}}
	first := &thing{kind: heap.KindSymbol}
	m.objects = []*thing{first}
	first.fields = m.nils(5)
	return m
}

func (m *model) nils(n int) []value {
	out := make([]value, n)
	for i := range out {
		out[i] = value{to: m.objects[0]}
	}
	return out
}

func (m *model) place(o *thing) int {
	n := 0
	for _, x := range m.objects {
		if x == o {
			return n
		}
		n += x.size()
	}
	return -1
}

func (m *model) used() int {
	n := 0
	for _, x := range m.objects {
		n += x.size()
	}
	return n
}

func (m *model) word(v value) heap.Word {
	if v.to == nil {
		return v.word
	}
	return heap.Word(m.place(v.to))<<3 | 3
}

// value returns what a word says, and whether it says anything.
func (m *model) value(w heap.Word) (value, bool) {
	n := uint64(w >> 3)
	switch w & 7 {
	case 0:
		return value{word: w}, true
	case 1:
		return value{word: w}, n <= 1114111 && (n < 55296 || n > 57343)
	case 2:
		return value{word: w}, n == 0
	case 3:
		for _, o := range m.objects {
			if uint64(m.place(o)) == n {
				return value{to: o}, true
			}
		}
	}
	return value{}, false
}

// cells is the graph of some values by its definition.
func (m *model) cells(l []value) ([]heap.Cell, []heap.Field) {
	var met []*thing
	var meet func(v value)
	meet = func(v value) {
		if v.to == nil || v.to == m.objects[0] || slices.Contains(met, v.to) {
			return
		}
		met = append(met, v.to)
		for _, f := range v.to.fields {
			meet(f)
		}
	}
	for _, v := range l {
		meet(v)
	}
	fields := func(l []value) []heap.Field {
		var out []heap.Field
		for _, v := range l {
			switch v.to {
			case nil:
				out = append(out, now(v.word))
			case m.objects[0]:
				out = append(out, ref(-2))
			default:
				out = append(out, ref(slices.Index(met, v.to)))
			}
		}
		return out
	}
	var cells []heap.Cell
	for _, o := range met {
		cells = append(cells, heap.Cell{Kind: o.kind, Raw: o.raw, Bytes: o.bytes, Fields: fields(o.fields)})
	}
	return cells, fields(l)
}

// check compares all that the heap tells with the model.
func (m *model) check(t *testing.T) {
	t.Helper()
	var objects, remembered []heap.Word
	old := 0
	for i, o := range m.objects {
		w := m.word(value{to: o})
		objects = append(objects, w)
		if i < m.old {
			old += o.size()
			if slices.ContainsFunc(o.fields, func(v value) bool { return slices.Contains(m.objects[m.old:], v.to) }) {
				remembered = append(remembered, w)
			}
		}
		n := len(o.bytes)
		if !o.raw {
			n = len(o.fields)
		}
		if h := m.h; h.Kind(w) != o.kind || h.Len(w) != n || h.Place(w) != m.place(o) {
			t.Fatalf("the object %d: kind %d, length %d, place %d; want %v", w, h.Kind(w), h.Len(w), h.Place(w), o)
		}
		if s, e := m.h.Bytes(w); o.raw && (s != o.bytes || e != api.OK) || !o.raw && e != heap.ErrRaw {
			t.Fatalf("the bytes of %d: %q, %v", w, s, e)
		}
		for k, f := range o.fields {
			if x, e := m.h.Get(w, k); x != m.word(f) || e != api.OK {
				t.Fatalf("the field %d of %d: %d, %v; want %d", k, w, x, e, m.word(f))
			}
		}
	}
	if !slices.Equal(m.h.Objects(), objects) || !slices.Equal(m.h.Remembered(), remembered) {
		t.Fatalf("Objects %v, Remembered %v; want %v, %v", m.h.Objects(), m.h.Remembered(), objects, remembered)
	}
	if h := m.h; h.Used() != m.used() || h.Limit() != m.limit || h.Old() != old || h.Full() != (m.used()-old > m.young) || h.Moves() != m.moves {
		t.Fatalf("Used %d, Limit %d, Old %d, Full %v, Moves %d; want %d, %d, %d, %d", h.Used(), h.Limit(), h.Old(), h.Full(), h.Moves(), m.used(), m.limit, old, m.moves)
	}
	var roots []int
	for n := range m.next {
		v, ok := m.roots[n]
		w, e := m.h.At(n)
		if ok {
			roots = append(roots, n)
		}
		if ok && (w != m.word(v) || e != api.OK) || !ok && (w != 0 || e != api.ErrNone) {
			t.Fatalf("At(%d) = %d, %v", n, w, e)
		}
	}
	if !slices.Equal(m.h.Roots(), roots) {
		t.Fatalf("Roots %v; want %v", m.h.Roots(), roots)
	}
}

// anyWord returns a word that is right mostly.
func (m *model) anyWord(r *rand.Rand) heap.Word {
	switch r.IntN(12) {
	case 0:
		return heap.Word(r.IntN(m.used()*8 + 80))
	case 1:
		return heap.Word(r.Uint64())
	case 2:
		return char(rune(r.IntN(200)))
	case 3:
		return heap.Unbound
	case 4, 5:
		return fix(int64(r.IntN(200) - 100))
	}
	return m.word(value{to: m.objects[r.IntN(len(m.objects))]})
}

func anyBytes(r *rand.Rand) string {
	b := make([]byte, r.IntN(20))
	for i := range b {
		b[i] = []byte{0, 1, 3, 51, 99, 255}[r.IntN(6)]
	}
	return string(b)
}

// change does one thing with the heap, and the same with the model.
func (m *model) change(t *testing.T, r *rand.Rand) {
	t.Helper()
	switch r.IntN(12) {
	case 0, 1, 2:
		m.add(t, &thing{kind: r.IntN(34) - 1, fields: m.nils(r.IntN(5))})
	case 3:
		m.add(t, &thing{kind: r.IntN(34) - 1, raw: true, bytes: anyBytes(r)})
	case 4, 5, 6, 7:
		m.set(t, m.anyWord(r), r.IntN(6)-1, m.anyWord(r))
	case 8:
		m.root(t, m.anyWord(r))
	case 9:
		m.put(t, r.IntN(m.next+2)-1, m.anyWord(r))
	case 10:
		n := r.IntN(m.next+2) - 1
		_, ok := m.roots[n]
		if e := m.h.Drop(n); (e == api.OK) != ok || !ok && e != api.ErrNone {
			t.Fatalf("Drop(%d): %v", n, e)
		}
		delete(m.roots, n)
	default:
		m.keep(t, r)
	}
}

func (m *model) add(t *testing.T, o *thing) {
	t.Helper()
	var w heap.Word
	var e, want api.Errno
	if o.raw {
		w, e = m.h.Raw(o.kind, o.bytes)
	} else {
		w, e = m.h.New(o.kind, len(o.fields))
	}
	switch {
	case o.kind < 1 || o.kind > 31:
		want = api.ErrArg
	case m.used()+o.size() > m.limit:
		want = api.ErrWords
	default:
		m.objects = append(m.objects, o)
	}
	if e != want || e != api.OK && w != 0 || e == api.OK && w != m.word(value{to: o}) {
		t.Fatalf("a new object %v: %d, %v; want %v", o, w, e, want)
	}
}

func (m *model) set(t *testing.T, w heap.Word, i int, x heap.Word) {
	t.Helper()
	v, _ := m.value(w)
	y, ok := m.value(x)
	want := api.OK
	switch {
	case v.to == nil:
		want = heap.ErrWord
	case v.to.raw:
		want = heap.ErrRaw
	case i < 0 || i >= len(v.to.fields):
		want = api.ErrRange
	case !ok:
		want = heap.ErrWord
	default:
		v.to.fields[i] = y
	}
	if e := m.h.Set(w, i, x); e != want {
		t.Fatalf("Set(%d, %d, %d): %v; want %v", w, i, x, e, want)
	}
}

func (m *model) root(t *testing.T, w heap.Word) {
	t.Helper()
	v, ok := m.value(w)
	want := -1
	if ok {
		want = m.next
		m.roots[want] = v
		m.next++
	}
	if n := m.h.Root(w); n != want {
		t.Fatalf("Root(%d) = %d; want %d", w, n, want)
	}
}

func (m *model) put(t *testing.T, n int, w heap.Word) {
	t.Helper()
	v, ok := m.value(w)
	_, known := m.roots[n]
	want := api.OK
	switch {
	case !known:
		want = api.ErrNone
	case !ok:
		want = heap.ErrWord
	default:
		m.roots[n] = v
	}
	if e := m.h.Put(n, w); e != want {
		t.Fatalf("Put(%d, %d): %v; want %v", n, w, e, want)
	}
}

// keep keeps most objects, in any order and in any space; sometimes one twice, or what is none.
func (m *model) keep(t *testing.T, r *rand.Rand) {
	t.Helper()
	var l []heap.Word
	for _, i := range r.Perm(len(m.objects)) {
		if i > 0 && r.IntN(10) > 0 {
			l = append(l, m.word(value{to: m.objects[i]}))
		}
	}
	for r.IntN(6) == 0 {
		l = append(l, m.anyWord(r))
	}
	old := r.IntN(len(l) + 1)
	want := api.OK
	kept := []*thing{m.objects[0]}
	for _, w := range l {
		v, _ := m.value(w)
		switch {
		case v.to == nil:
			want = heap.ErrWord
		case slices.Contains(kept, v.to) && want == api.OK:
			want = api.ErrTwice
		}
		kept = append(kept, v.to)
	}
	if e := m.h.Keep(l[:old:old], slices.Clone(l[old:])); e != want {
		t.Fatalf("Keep(%v, %v): %v; want %v", l[:old], l[old:], e, want)
	}
	if want == api.OK {
		m.lay(kept, old+1)
	}
}

func (m *model) lay(kept []*thing, old int) {
	still := func(v value) value {
		if v.to != nil && !slices.Contains(kept, v.to) {
			return value{word: heap.Unbound}
		}
		return v
	}
	for _, o := range kept {
		for i, v := range o.fields {
			o.fields[i] = still(v)
		}
	}
	for n, v := range m.roots {
		m.roots[n] = still(v)
	}
	m.objects, m.old = kept, old
	m.moves++
}

// P15.1, P15.3 and P15.5: whatever is done, the heap tells what its definition says.
func TestP15_3Model(t *testing.T) {
	for seed := range uint64(500) {
		r := rand.New(rand.NewPCG(seed, 15))
		limit := 64 + r.IntN(150)
		m := newModel(t, limit, 1+r.IntN(limit))
		for range 120 {
			m.change(t, r)
			m.check(t)
		}
	}
}

// P15.4: Cells are those of the definition, and Lay of them makes a graph that has the same ones, also in another heap.
func TestP15_4Graphs(t *testing.T) {
	for seed := range uint64(200) {
		r := rand.New(rand.NewPCG(seed, 154))
		m := newModel(t, 400, 400)
		for range 60 {
			m.change(t, r)
		}
		var values []value
		var words []heap.Word
		for range r.IntN(4) {
			if v, ok := m.value(m.anyWord(r)); ok {
				values, words = append(values, v), append(words, m.word(v))
			}
		}
		cells, fields, e := m.h.Cells(words)
		want, wanted := m.cells(values)
		if e != api.OK || !alike(cells, want) || !sameFields(fields, wanted) {
			t.Fatalf("Cells(%v) = %v, %v, %v; want %v, %v", words, cells, fields, e, want, wanted)
		}
		other := empty(t, 1000, 1000)
		for _, h := range []*heap.Heap{m.h, other} {
			used := h.Used()
			laid, e := h.Lay(cells, fields)
			if e == api.ErrWords && h == m.h {
				continue
			}
			again, same, f := h.Cells(laid)
			if e != api.OK || f != api.OK || !alike(again, cells) || !sameFields(same, fields) {
				t.Fatalf("Cells of Lay: %v, %v, %v, %v", again, same, e, f)
			}
			for _, w := range laid {
				if w.IsRef() && w != heap.Nil && h.Place(w) < used {
					t.Fatalf("Lay returns the object %d that was there", w)
				}
			}
		}
	}
}

// P15.4: Keep of all objects that are met from some roots changes no Cells of them.
func TestP15_4Keep(t *testing.T) {
	for seed := range uint64(200) {
		r := rand.New(rand.NewPCG(seed, 155))
		m := newModel(t, 400, 400)
		for range 80 {
			m.change(t, r)
		}
		words := func() []heap.Word {
			var out []heap.Word
			for _, n := range m.h.Roots() {
				w, _ := m.h.At(n)
				out = append(out, w)
			}
			return out
		}
		cells, fields, _ := m.h.Cells(words())
		_, met, _ := m.h.Cells(words())
		var kept []heap.Word
		for _, w := range m.h.Objects()[1:] {
			if _, with, _ := m.h.Cells(append(words(), w)); len(met) > 0 && with[len(with)-1].Object < len(cells) {
				kept = append(kept, w)
			}
		}
		r.Shuffle(len(kept), func(i, k int) { kept[i], kept[k] = kept[k], kept[i] })
		n := r.IntN(len(kept) + 1)
		if e := m.h.Keep(kept[:n], kept[n:]); e != api.OK {
			t.Fatal(e)
		}
		again, same, e := m.h.Cells(words())
		if e != api.OK || !alike(again, cells) || !sameFields(same, fields) {
			t.Fatalf("Cells: %v, %v, %v; want %v, %v", again, same, e, cells, fields)
		}
	}
}

// P1: no function panics, and with an error there is no result.
func TestP15_1AnyArguments(t *testing.T) {
	r := rand.New(rand.NewPCG(1, 15))
	m := newModel(t, 300, 10)
	for range 3000 {
		cells := make([]heap.Cell, r.IntN(3))
		fields := func() []heap.Field {
			out := make([]heap.Field, r.IntN(3))
			for i := range out {
				out[i] = heap.Field{Word: []heap.Word{0, 0, 0, m.anyWord(r)}[r.IntN(4)], Object: r.IntN(5) - 3}
			}
			return out
		}
		for i := range cells {
			cells[i] = heap.Cell{Kind: r.IntN(34) - 1, Raw: r.IntN(2) == 0, Bytes: strings.Repeat("x", r.IntN(2)), Fields: fields()}
		}
		words := fields()
		used := m.h.Used()
		if l, e := m.h.Lay(cells, words); e != api.OK && (l != nil || m.h.Used() != used) {
			t.Fatalf("Lay(%v, %v) = %v, %v", cells, words, l, e)
		}
		l := []heap.Word{m.anyWord(r), m.anyWord(r)}
		if c, f, e := m.h.Cells(l); e != api.OK && (c != nil || f != nil) {
			t.Fatalf("Cells(%v) = %v, %v, %v", l, c, f, e)
		}
		if m.h.Used() > 250 {
			m.h.Keep(nil, nil)
		}
	}
}
