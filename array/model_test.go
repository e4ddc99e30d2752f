package array

import (
	"math/rand/v2"
	"slices"
	"strconv"
	"testing"

	"commonform/api"
	"commonform/forms"
)

func source(seed uint64) *rand.Rand { return rand.New(rand.NewPCG(seed, 11)) }

// model is a room by its definition: arrays with elements of their own have cells, others none.
type model struct {
	arrays []Array
	cells  [][]*api.Form
}

// view returns the cells that an array shows.
func (m *model) view(a int) []*api.Form {
	x := m.arrays[a]
	if x.Target < 0 {
		return m.cells[a]
	}
	return m.view(x.Target)[x.Offset : x.Offset+size(x.Dims)]
}

func size(dims []int) int {
	n := 1
	for _, d := range dims {
		n *= d
	}
	return n
}

func cellsOf(n int, x api.Form) []*api.Form {
	var out []*api.Form
	for range n {
		y := x
		out = append(out, &y)
	}
	return out
}

// firstOf returns the code of the first error that is there.
func firstOf(l ...any) api.Errno {
	for i := 0; i < len(l); i += 2 {
		if l[i].(bool) {
			return l[i+1].(api.Errno)
		}
	}
	return api.OK
}

func isBit(x api.Form) bool { return x.Kind == api.FormInt && (x.Text == "0" || x.Text == "1") }

func (m *model) elementError(a int, x api.Form) api.Errno {
	return firstOf(forms.Check(x) != api.OK, api.ErrForm, m.arrays[a].Bits && !isBit(x), ErrBits)
}

// fitting reports whether all arrays show elements that are there.
func (m *model) fitting() bool {
	for _, x := range m.arrays {
		if x.Target >= 0 && x.Offset+size(x.Dims) > size(m.arrays[x.Target].Dims) {
			return false
		}
	}
	return true
}

// change changes an array, unless others do not fit then.
func (m *model) change(a int, x Array, cells []*api.Form) api.Errno {
	before, old := m.arrays[a], m.cells[a]
	m.arrays[a], m.cells[a] = x, cells
	if !m.fitting() {
		m.arrays[a], m.cells[a] = before, old
		return api.ErrSize
	}
	return api.OK
}

func (m *model) adjust(a int, dims []int, fill int, initial api.Form) api.Errno {
	x := m.arrays[a]
	next := fill
	if fill == -2 {
		next = x.Fill
	}
	isShort := func() bool { return len(dims) == 1 && next > dims[0] }
	if e := firstOf(!x.Adjustable, api.ErrArg, len(dims) != len(x.Dims), ErrRank, fill != -2 && fill != -1 && x.Fill < 0 || fill == -1 && x.Fill >= 0, ErrFill, fill < -2 || isShort(), api.ErrRange); e != api.OK {
		return e
	}
	if e := m.elementError(a, initial); e != api.OK {
		return e
	}
	cells := cellsOf(size(dims), initial)
	for i, c := range m.view(a) {
		at, _ := Subscripts(x.Dims, i)
		n, isIn := 0, true
		for k, s := range at {
			n, isIn = n*dims[k]+s, isIn && s < dims[k]
		}
		if isIn {
			*cells[n] = *c
		}
	}
	return m.change(a, Array{Dims: dims, Fill: next, Adjustable: true, Target: -1, Bits: x.Bits}, cells)
}

// shows reports whether an array is displaced to another one, or is it.
func (m *model) shows(a, b int) bool {
	for a >= 0 && a != b {
		a = m.arrays[a].Target
	}
	return a == b
}

func (m *model) displace(a int, dims []int, target, offset int) api.Errno {
	x := m.arrays[a]
	if e := firstOf(!x.Adjustable, api.ErrArg, len(dims) != len(x.Dims), ErrRank, target < 0 || target >= len(m.arrays), api.ErrNone); e != api.OK {
		return e
	}
	y := m.arrays[target]
	if e := firstOf(m.shows(target, a), api.ErrOrder, x.Bits != y.Bits, ErrBits, offset < 0 || offset+size(dims) > size(y.Dims), api.ErrRange, len(dims) == 1 && x.Fill > dims[0], api.ErrRange); e != api.OK {
		return e
	}
	return m.change(a, Array{Dims: dims, Fill: x.Fill, Adjustable: true, Target: target, Offset: offset, Bits: x.Bits}, nil)
}

func (m *model) push(a int, x api.Form, extend int) (int, api.Errno) {
	e := firstOf(m.arrays[a].Fill < 0, ErrFill)
	if e == api.OK {
		e = m.elementError(a, x)
	}
	at := m.arrays[a].Fill
	if e == api.OK && at == m.arrays[a].Dims[0] {
		e = firstOf(!m.arrays[a].Adjustable || extend == 0, api.ErrFull, extend < 0, api.ErrRange)
		if e == api.OK {
			e = m.adjust(a, []int{at + extend}, -2, x)
		}
	}
	if e != api.OK {
		return 0, e
	}
	*m.view(a)[at] = x
	m.arrays[a].Fill++
	return at, api.OK
}

// game makes the same changes in a room and in its model.
type game struct {
	*testing.T
	*rand.Rand
	room *Room
	model
}

func (g *game) dims() []int {
	out := make([]int, []int{1, 1, 1, 0, 2, 3}[g.IntN(6)])
	for i := range out {
		out[i] = g.IntN(5)
	}
	return out
}

func (g *game) element() api.Form {
	return []api.Form{whole("0"), whole("1"), whole("1"), whole("0"), whole("7"), leaf(api.FormString, "x"), list(whole("1")), {}}[g.IntN(8)]
}

func (g *game) array() int { return g.IntN(len(g.arrays)) }

func (g *game) same(what string, got, e api.Errno) {
	g.Helper()
	if got != e {
		g.Fatalf("%s: %v, not %v: %v", what, got, e, g.arrays)
	}
}

func (g *game) make() {
	a := Array{Dims: g.dims(), Fill: -1, Adjustable: g.IntN(4) > 0, Target: -1, Bits: g.IntN(3) == 0}
	if len(a.Dims) == 1 && g.IntN(2) == 0 {
		a.Fill = g.IntN(a.Dims[0] + 1)
	}
	x := g.element()
	if len(g.arrays) > 0 && g.IntN(2) == 0 {
		a.Target, a.Offset = g.array(), g.IntN(4)
		y := g.arrays[a.Target]
		if e := firstOf(y.Bits != a.Bits, ErrBits, a.Offset+size(a.Dims) > size(y.Dims), api.ErrRange); e != api.OK {
			_, got := g.room.Make(a, x)
			g.same("Make", got, e)
			return
		}
	}
	g.arrays = append(g.arrays, a)
	e := g.elementError(len(g.arrays)-1, x)
	if a.Target >= 0 {
		e = api.OK
	}
	n, got := g.room.Make(a, x)
	g.same("Make", got, e)
	if e != api.OK {
		g.arrays = g.arrays[:len(g.arrays)-1]
		return
	}
	if n != len(g.arrays)-1 {
		g.Fatalf("Make = %d", n)
	}
	g.cells = append(g.cells, nil)
	if a.Target < 0 {
		g.cells[n] = cellsOf(size(a.Dims), x)
	}
}

// similar returns dimensions of the rank of an array, most of the time.
func (g *game) similar(a int) []int {
	dims := g.dims()
	for len(dims) != len(g.arrays[a].Dims) && g.IntN(10) > 0 {
		dims = g.dims()
	}
	return dims
}

func (g *game) step() {
	a := g.array()
	switch g.IntN(8) {
	case 0, 1:
		dims, fill, x := g.similar(a), g.IntN(6)-3, g.element()
		if g.arrays[a].Fill < 0 && g.IntN(2) == 0 {
			fill = -1
		}
		g.same("Adjust", g.room.Adjust(a, dims, fill, x), g.adjust(a, slices.Clone(dims), fill, x))
	case 2:
		dims, target, offset := g.similar(a), g.IntN(len(g.arrays)+2)-1, g.IntN(5)-1
		g.same("Displace", g.room.Displace(a, dims, target, offset), g.displace(a, slices.Clone(dims), target, offset))
	case 3:
		x, extend := g.element(), g.IntN(4)-1
		n, e := g.room.Push(a, x, extend)
		m, f := g.push(a, x, extend)
		g.same("Push", e, f)
		if n != m {
			g.Fatalf("Push = %d, not %d", n, m)
		}
	case 4:
		g.pop(a)
	case 5:
		n := g.IntN(6) - 1
		e := firstOf(g.arrays[a].Fill < 0, ErrFill, n < 0 || len(g.arrays[a].Dims) == 1 && n > g.arrays[a].Dims[0], api.ErrRange)
		g.same("SetFill", g.room.SetFill(a, n), e)
		if e == api.OK {
			g.arrays[a].Fill = n
		}
	case 6:
		g.boole(a)
	case 7:
		i, x := g.IntN(6)-1, g.element()
		l := g.view(a)
		e := firstOf(i < 0 || i >= len(l), api.ErrRange)
		if e == api.OK {
			e = g.elementError(a, x)
		}
		g.same("Set", g.room.Set(a, i, x), e)
		if e == api.OK {
			*l[i] = x
		}
	}
}

func (g *game) pop(a int) {
	x, e := g.room.Pop(a)
	fill := g.arrays[a].Fill
	g.same("Pop", e, firstOf(fill <= 0, ErrFill))
	if e == api.OK {
		if !forms.Equal(x, *g.view(a)[fill-1]) {
			g.Fatalf("Pop = %v", x)
		}
		g.arrays[a].Fill--
	}
}

func (g *game) boole(into int) {
	a, b, op := g.array(), g.array(), g.IntN(18)-1
	x, y, z := g.arrays[a], g.arrays[b], g.arrays[into]
	e := firstOf(op < 0 || op > 15, api.ErrArg, !x.Bits || !y.Bits || !z.Bits, ErrBits, !slices.Equal(x.Dims, y.Dims) || !slices.Equal(x.Dims, z.Dims), ErrRank)
	g.same("Boole", g.room.Boole(op, a, b, into), e)
	if e == api.OK {
		for i, c := range g.view(into) {
			n, _ := strconv.Atoi(g.view(a)[i].Text)
			m, _ := strconv.Atoi(g.view(b)[i].Text)
			*c = whole(strconv.Itoa(op >> (2*n + m) & 1))
		}
	}
}

// check compares all that can be seen of a room with its model.
func (g *game) check() {
	for a, x := range g.arrays {
		of, e := g.room.Of(a)
		if e != api.OK || !sameArray(of, x) {
			g.Fatalf("Of(%d) = %v, not %v", a, of, x)
		}
		l := g.view(a)
		if n, e := g.room.Total(a); n != len(l) || e != api.OK {
			g.Fatalf("Total = %d, %v", n, e)
		}
		for i, c := range l {
			if y, e := g.room.Get(a, i); e != api.OK || !forms.Equal(y, *c) {
				g.Fatalf("Get(%d, %d) = %v, %v, not %v", a, i, y, e, *c)
			}
			if to, at, e := g.room.Where(a, i); e != api.OK || g.arrays[to].Target >= 0 || g.cells[to][at] != c {
				g.Fatalf("Where(%d, %d) = %d, %d, %v", a, i, to, at, e)
			}
		}
		if x.Fill >= 0 {
			l = l[:x.Fill]
		}
		contents, e := g.room.Contents(a)
		if e != api.OK || !slices.EqualFunc(contents, l, func(y api.Form, c *api.Form) bool { return forms.Equal(y, *c) }) {
			g.Fatalf("Contents(%d) = %v, %v", a, contents, e)
		}
		n, e := g.room.Length(a)
		g.same("Length", e, firstOf(len(x.Dims) != 1, ErrRank))
		if e == api.OK && n != len(l) {
			g.Fatalf("Length(%d) = %d, not %d", a, n, len(l))
		}
	}
}

// P11.1 and P11.3: whatever is done with a room, it is as its definition says.
func TestP11_1Model(t *testing.T) {
	r := source(1)
	done := 0
	for range 400 {
		g := &game{T: t, Rand: r, room: NewRoom()}
		for len(g.arrays) == 0 {
			g.make()
		}
		for range 80 {
			if g.IntN(8) == 0 && len(g.arrays) < 12 {
				g.make()
			}
			g.step()
			g.check()
			done++
		}
	}
	if done != 32000 {
		t.Errorf("%d steps", done)
	}
}

// anyGame returns a room with some arrays that were changed.
func anyGame(t *testing.T, r *rand.Rand) *game {
	g := &game{T: t, Rand: r, room: NewRoom()}
	for len(g.arrays) < 4 {
		g.make()
	}
	for range 20 {
		g.step()
	}
	return g
}

func TestP11_2Indices(t *testing.T) {
	r := source(2)
	for range 2000 {
		g := &game{T: t, Rand: r}
		dims := g.dims()
		room := NewRoom()
		a := made(t, room, own(dims...), whole("0"))
		var before []int
		for i := range size(dims) {
			at, e := Subscripts(dims, i)
			want(t, "Subscripts", e, api.OK)
			if n, e := room.Index(a, at); n != i || e != api.OK {
				t.Fatalf("Index of %v in %v = %d, %v, not %d", at, dims, n, e, i)
			}
			if i > 0 && slices.Compare(before, at) >= 0 {
				t.Fatalf("the subscripts %v come ahead of %v", before, at)
			}
			before = at
		}
		if last := slices.Clone(before); len(dims) > 0 && size(dims) > 0 {
			for i, d := range dims {
				if last[i] != d-1 {
					t.Fatalf("the last subscripts of %v are %v", dims, last)
				}
			}
		}
	}
}

func TestP11_3Where(t *testing.T) {
	r := source(3)
	for range 300 {
		g := anyGame(t, r)
		a, b := g.array(), g.array()
		for i := range g.view(a) {
			for k := range g.view(b) {
				to, at, _ := g.room.Where(a, i)
				other, place, _ := g.room.Where(b, k)
				before, _ := g.room.Get(b, k)
				next := whole("0")
				if forms.Equal(before, next) {
					next = whole("1")
				}
				want(t, "Set", g.room.Set(a, i, next), api.OK)
				after, _ := g.room.Get(b, k)
				if isOne := to == other && at == place; isOne != !forms.Equal(before, after) || isOne && !forms.Equal(after, next) {
					t.Fatalf("Where: %d, %d and %d, %d; %v became %v", to, at, other, place, before, after)
				}
			}
		}
	}
}

func TestP11_4Stacks(t *testing.T) {
	r := source(4)
	tried := 0
	for range 3000 {
		g := anyGame(t, r)
		a, x, extend := g.array(), g.element(), r.IntN(3)
		before, _ := g.room.Of(a)
		l, _ := g.room.Contents(a)
		n, e := g.room.Push(a, x, extend)
		if e != api.OK {
			continue
		}
		tried++
		m, _ := g.room.Contents(a)
		if n != len(l) || len(m) != n+1 || !forms.Equal(m[n], x) || !forms.Equal(api.Form{Kids: m[:n]}, api.Form{Kids: l}) {
			t.Fatalf("Push of %v = %d: %v became %v", x, n, l, m)
		}
		y, e := g.room.Pop(a)
		after, _ := g.room.Of(a)
		k, _ := g.room.Contents(a)
		if n == before.Dims[0] { // it was adjusted
			before.Dims, before.Target, before.Offset = []int{n + extend}, -1, 0
		}
		if e != api.OK || !forms.Equal(x, y) || !sameArray(before, after) || !forms.Equal(api.Form{Kids: k}, api.Form{Kids: l}) {
			t.Fatalf("Pop of Push = %v, %v; %v became %v", y, e, before, after)
		}
	}
	if tried < 100 {
		t.Errorf("only %d stacks", tried)
	}
}

func TestP11_5Adjusting(t *testing.T) {
	r := source(5)
	tried := 0
	for range 3000 {
		g := anyGame(t, r)
		a := g.array()
		before, _ := g.room.Of(a)
		if !before.Adjustable {
			continue
		}
		tried++
		initial := whole("1")
		l, _ := g.room.Contents(a)
		want(t, "Adjust", g.room.Adjust(a, before.Dims, -2, initial), api.OK)
		after, _ := g.room.Of(a)
		before.Target, before.Offset = -1, 0
		m, _ := g.room.Contents(a)
		if !sameArray(before, after) || !forms.Equal(api.Form{Kids: l}, api.Form{Kids: m}) {
			t.Fatalf("Adjust to the same dimensions: %v %v became %v %v", before, l, after, m)
		}
		more := slices.Clone(before.Dims)
		for i := range more {
			more[i] += r.IntN(3)
		}
		want(t, "Adjust", g.room.Adjust(a, more, -2, initial), api.OK)
		want(t, "Adjust", g.room.Adjust(a, before.Dims, -2, initial), api.OK)
		if m, _ := g.room.Contents(a); !forms.Equal(api.Form{Kids: l}, api.Form{Kids: m}) {
			t.Fatalf("Adjust to %v and back: %v became %v", more, l, m)
		}
	}
	if tried < 500 {
		t.Errorf("only %d arrays", tried)
	}
}

func TestP11_6Bits(t *testing.T) {
	r := source(6)
	for range 2000 {
		g := &game{T: t, Rand: r}
		dims := g.dims()
		room := NewRoom()
		bits := with(own(dims...), bitty)
		a, b, c, d := made(t, room, bits, whole("0")), made(t, room, bits, whole("1")), made(t, room, bits, whole("0")), made(t, room, bits, whole("0"))
		for i := range size(dims) {
			want(t, "Set", room.Set(a, i, whole(strconv.Itoa(r.IntN(2)))), api.OK)
			want(t, "Set", room.Set(b, i, whole(strconv.Itoa(r.IntN(2)))), api.OK)
		}
		op := r.IntN(16)
		want(t, "Boole", room.Boole(op, a, b, c), api.OK)
		want(t, "Boole", room.Boole(15-op, a, b, d), api.OK)
		want(t, "Boole", room.Boole(6, c, d, d), api.OK) // both differ everywhere
		if s := texts(t, room, d); len(s) > 0 && s != ones(size(dims)) {
			t.Fatalf("Boole %d and its complement agree: %s", op, s)
		}
		want(t, "Boole", room.Boole(12, a, b, c), api.OK)
		if texts(t, room, c) != texts(t, room, a) {
			t.Fatalf("Boole 12 = %s", texts(t, room, c))
		}
		want(t, "Boole", room.Boole(6, a, a, a), api.OK)
		want(t, "Boole", room.Boole(3, a, b, a), api.OK) // not a
		if texts(t, room, a) != ones(size(dims)) {
			t.Fatalf("Boole 6 with itself, and its complement = %s", texts(t, room, a))
		}
	}
}

// ones returns the texts of n bits that are 1.
func ones(n int) string {
	s := ""
	for i := range n {
		if i > 0 {
			s += " "
		}
		s += "1"
	}
	return s
}
