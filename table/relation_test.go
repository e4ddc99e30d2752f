package table_test

import (
	"math/rand/v2"
	"slices"
	"strconv"
	"strings"
	"testing"
	"unicode/utf8"

	"commonform/api"
	"commonform/heap"
	"commonform/number"
	"commonform/table"
)

func fix(n int64) heap.Word {
	w, _ := heap.Fix(n)
	return w
}

func char(c rune) heap.Word {
	w, _ := heap.Char(c)
	return w
}

func empty(t *testing.T, limit int) *heap.Heap {
	t.Helper()
	h, e := heap.New(limit, limit)
	if e != api.OK {
		t.Fatal(e)
	}
	return h
}

// object returns a new object with these fields.
func object(t *testing.T, h *heap.Heap, kind int, fields ...heap.Word) heap.Word {
	t.Helper()
	w, e := h.New(kind, len(fields))
	if e != api.OK {
		t.Fatal(e)
	}
	for i, x := range fields {
		h.Set(w, i, x)
	}
	return w
}

func raw(t *testing.T, h *heap.Heap, kind int, bytes string) heap.Word {
	t.Helper()
	w, e := h.Raw(kind, bytes)
	if e != api.OK {
		t.Fatal(e)
	}
	return w
}

// same asks by a test.
func same(t *testing.T, h *heap.Heap, test int, a, b heap.Word) bool {
	t.Helper()
	ok, e := a == b, api.OK
	switch test {
	case table.EqlTest:
		ok, e = table.Eql(h, a, b)
	case table.EqualTest:
		ok, e = table.Equal(h, a, b)
	case table.EqualpTest:
		ok, e = table.Equalp(h, a, b)
	}
	if e != api.OK {
		t.Fatalf("%d, %d by the test %d: %v", a, b, test, e)
	}
	return ok
}

func fieldsOf(h *heap.Heap, w heap.Word) ([]heap.Word, bool) {
	out := make([]heap.Word, h.Len(w))
	for i := range out {
		x, e := h.Get(w, i)
		if e != api.OK {
			return nil, false
		}
		out[i] = x
	}
	_, e := h.Bytes(w)
	return out, e == heap.ErrRaw
}

// formOf is the form of a number by its definition.
func formOf(h *heap.Heap, w heap.Word) (api.Form, bool) {
	if n, ok := w.Fixnum(); ok {
		return api.Form{Kind: api.FormInt, Text: strconv.FormatInt(n, 10)}, true
	}
	f := api.Form{Kind: h.Kind(w)}
	switch {
	case f.Kind < heap.KindInt || f.Kind > heap.KindComplex:
		return f, false
	case f.Kind < heap.KindComplex:
		text, e := h.Bytes(w)
		f.Text = text
		return f, e == api.OK && number.Check(f) == api.OK
	}
	fields, ok := fieldsOf(h, w)
	for _, x := range fields {
		kid, isNumber := api.Form{}, false
		if h.Kind(x) != heap.KindComplex {
			kid, isNumber = formOf(h, x)
		}
		f.Kids, ok = append(f.Kids, kid), ok && isNumber
	}
	return f, ok && number.Check(f) == api.OK
}

// agreeByValue says by the definitions whether two words agree by value.
func agreeByValue(h *heap.Heap, test int, a, b heap.Word) bool {
	if a == b {
		return true
	}
	x, one := formOf(h, a)
	y, other := formOf(h, b)
	if one && other {
		ok, _ := number.Eql(x, y)
		if test == table.EqualpTest {
			ok, _ = number.Equals(x, y)
		}
		return ok && test >= table.EqlTest
	}
	s, e := h.Bytes(a)
	u, f := h.Bytes(b)
	if k := h.Kind(a); test >= table.EqualTest && k == h.Kind(b) && (k == heap.KindString || k == heap.KindBits) {
		return e == api.OK && f == api.OK && s == u
	}
	c, one := a.Character()
	d, other := b.Character()
	lower := func(c rune) string { // of ASCII alone
		if c < 128 {
			return strings.ToLower(string(c))
		}
		return strconv.Itoa(int(c))
	}
	return test == table.EqualpTest && one && other && lower(c) == lower(d)
}

// partsOf says which words agree if their parts do: those with the same text.
func partsOf(h *heap.Heap, test int, w heap.Word) (string, []heap.Word) {
	fields, hasFields := fieldsOf(h, w)
	k := h.Kind(w)
	dims := func(n int) string { return "array " + strconv.FormatUint(uint64(fix(int64(n))), 10) + " " }
	var out []heap.Word
	switch {
	case test >= table.EqualTest && k == heap.KindCons && hasFields && len(fields) == 2:
		return "cons", fields
	case test < table.EqualpTest:
		return "", nil
	case k == heap.KindString && !hasFields:
		s, _ := h.Bytes(w)
		for _, c := range s {
			out = append(out, char(c))
		}
		return dims(utf8.RuneCountInString(s)), out
	case k == heap.KindBits && !hasFields:
		s, _ := h.Bytes(w)
		for _, b := range []byte(s) {
			out = append(out, fix(map[byte]int64{'1': 1}[b]))
		}
		return dims(len(s)), out
	case k == heap.KindVector && hasFields:
		return dims(len(fields)), fields
	case k == heap.KindArray && hasFields && len(fields) == 2 && h.Kind(fields[0]) == heap.KindVector && h.Kind(fields[1]) == heap.KindVector:
		d, one := fieldsOf(h, fields[0])
		elements, other := fieldsOf(h, fields[1])
		if !one || !other {
			return "", nil
		}
		text := "array "
		for _, x := range d {
			text += strconv.FormatUint(uint64(x), 10) + " "
		}
		return text, elements
	}
	return "", nil
}

// relation is the greatest relation by its definition: pairs are taken out as long as one does not agree.
func relation(h *heap.Heap, test int, words []heap.Word) map[[2]heap.Word]bool {
	for i := 0; i < len(words); i++ {
		_, parts := partsOf(h, test, words[i])
		for _, p := range parts {
			if !slices.Contains(words, p) {
				words = append(words, p)
			}
		}
	}
	in := map[[2]heap.Word]bool{}
	for _, a := range words {
		for _, b := range words {
			in[[2]heap.Word{a, b}] = true
		}
	}
	agree := func(a, b heap.Word) bool {
		if agreeByValue(h, test, a, b) {
			return true
		}
		x, p := partsOf(h, test, a)
		y, q := partsOf(h, test, b)
		if x == "" || x != y || len(p) != len(q) {
			return false
		}
		for i := range p {
			if !in[[2]heap.Word{p[i], q[i]}] {
				return false
			}
		}
		return true
	}
	for before := -1; before != len(in); {
		before = len(in)
		for _, a := range words {
			for _, b := range words {
				if pair := [2]heap.Word{a, b}; in[pair] && !agree(a, b) {
					delete(in, pair)
				}
			}
		}
	}
	return in
}

// anyObject makes an object of parts that are there; numbers, strings and arrays of which some are not made as they should be.
func anyObject(t *testing.T, r *rand.Rand, h *heap.Heap, words []heap.Word) heap.Word {
	word := func() heap.Word { return words[r.IntN(len(words))] }
	pick := func(l ...string) string { return l[r.IntN(len(l))] }
	switch r.IntN(14) {
	case 0:
		return raw(t, h, heap.KindInt, pick("1", "2", "-0", "02", "1152921504606846976", ""))
	case 1:
		return raw(t, h, heap.KindSingle, pick("3f800000", "40000000", "00000000", "80000000", "7f800000", "3F800000"))
	case 2:
		return raw(t, h, heap.KindDouble, pick("3ff0000000000000", "4000000000000000", "3fe0000000000000"))
	case 3:
		return raw(t, h, heap.KindRatio, pick("1/2", "2/4", "3/2", "2/1"))
	case 4:
		return object(t, h, heap.KindComplex, word(), word())
	case 5:
		return raw(t, h, heap.KindString, pick("", "ab", "AB", "a", "\xff", "\uFFFD", "1", "é", "É"))
	case 6:
		return raw(t, h, heap.KindBits, pick("", "1", "10", "12", "01"))
	case 7:
		return object(t, h, []int{heap.KindSymbol, heap.KindBox, heap.KindString, heap.KindBits, heap.KindInt, heap.KindComplex}[r.IntN(6)], slices.Repeat([]heap.Word{word()}, r.IntN(3))...)
	case 8:
		return raw(t, h, []int{heap.KindCons, heap.KindVector, heap.KindArray, heap.KindComplex}[r.IntN(4)], pick("", "ab"))
	case 9:
		return object(t, h, heap.KindArray, word(), word())
	case 10:
		return object(t, h, heap.KindCons, slices.Repeat([]heap.Word{word()}, 1+2*r.IntN(2))...)
	case 11:
		return object(t, h, heap.KindVector, slices.Repeat([]heap.Word{word()}, r.IntN(3))...)
	}
	return object(t, h, heap.KindCons, word(), word())
}

// universe returns words of all kinds, and changes some of their fields, so that there are circles.
func universe(t *testing.T, r *rand.Rand, h *heap.Heap, n int) []heap.Word {
	words := []heap.Word{fix(0), fix(1), fix(2), char('a'), char('B'), char('b'), char('1'), char(0xe9), char(0xc9), heap.Nil, heap.Unbound}
	for range n {
		words = append(words, anyObject(t, r, h, words))
	}
	for range n / 2 {
		x, y := words[r.IntN(len(words))], words[r.IntN(len(words))]
		if h.Kind(x) != heap.KindSymbol {
			h.Set(x, r.IntN(2), y)
		}
	}
	return words
}

// P17.1 and P17.2: the relations are the greatest ones, and Hash is the same for what is the same.
func TestP17_2Relations(t *testing.T) {
	for seed := range uint64(60) {
		r := rand.New(rand.NewPCG(seed, 17))
		h := empty(t, 2000)
		words := universe(t, r, h, 40)
		for test := table.Eq; test <= table.EqualpTest; test++ {
			in := relation(h, test, slices.Clone(words))
			for _, a := range words {
				x, e := table.Hash(h, test, a)
				for _, b := range words {
					want := in[[2]heap.Word{a, b}]
					if got := same(t, h, test, a, b); got != want {
						t.Fatalf("%d and %d by the test %d: %v (seed %d)", a, b, test, got, seed)
					}
					if y, f := table.Hash(h, test, b); e != api.OK || f != api.OK || want && x != y {
						t.Fatalf("the hashes of %d and %d by the test %d: %d, %v and %d, %v", a, b, test, x, e, y, f)
					}
				}
			}
		}
	}
}

// P17.1: Keep changes no hash for Equal and Equalp, and not what is equal.
func TestP17_2Moved(t *testing.T) {
	for seed := range uint64(40) {
		r := rand.New(rand.NewPCG(seed, 172))
		h := empty(t, 2000)
		words := universe(t, r, h, 40)
		var roots []int
		var before []any
		tell := func() []any {
			var out []any
			for _, i := range roots {
				a, _ := h.At(i)
				for test := table.EqualTest; test <= table.EqualpTest; test++ {
					x, _ := table.Hash(h, test, a)
					out = append(out, x)
				}
				for _, k := range roots {
					b, _ := h.At(k)
					out = append(out, same(t, h, table.EqlTest, a, b), same(t, h, table.EqualTest, a, b), same(t, h, table.EqualpTest, a, b))
				}
			}
			return out
		}
		for _, w := range words {
			roots = append(roots, h.Root(w))
		}
		before = tell()
		l := h.Objects()[1:]
		r.Shuffle(len(l), func(i, k int) { l[i], l[k] = l[k], l[i] })
		n := r.IntN(len(l) + 1)
		if e := h.Keep(l[:n], l[n:]); e != api.OK {
			t.Fatal(e)
		}
		if !slices.Equal(tell(), before) {
			t.Fatalf("Keep has changed a relation or a hash (seed %d)", seed)
		}
	}
}

// The relations, pair by pair: to which test two words are the same first (4: to none).
func TestP17_1Relations(t *testing.T) {
	h := empty(t, 20000)
	num := func(kind int, text string) heap.Word { return raw(t, h, kind, text) }
	str := func(text string) heap.Word { return raw(t, h, heap.KindString, text) }
	bits := func(text string) heap.Word { return raw(t, h, heap.KindBits, text) }
	obj := func(kind int, fields ...heap.Word) heap.Word { return object(t, h, kind, fields...) }
	cons := func(a, d heap.Word) heap.Word { return obj(heap.KindCons, a, d) }
	vec := func(l ...heap.Word) heap.Word { return obj(heap.KindVector, l...) }
	arr := func(dims, elements heap.Word) heap.Word { return obj(heap.KindArray, dims, elements) }
	one, two := num(heap.KindSingle, "3f800000"), num(heap.KindSingle, "40000000")
	shared := vec(fix(1))
	for i, x := range []struct {
		a, b heap.Word
		test int
	}{
		{fix(1), fix(1), 0}, {fix(1), fix(2), 4}, {fix(97), char('a'), 4}, {fix(0), char(0), 4}, {heap.Unbound, char(0), 4}, {fix(1234567), num(heap.KindInt, "1234567"), 1}, {fix(-12), num(heap.KindSingle, "c1400000"), 3}, {heap.Unbound, heap.Unbound, 0}, {heap.Unbound, heap.Nil, 4}, {heap.Nil, heap.Nil, 0}, {one, one, 0},
		{fix(2), num(heap.KindInt, "2"), 1}, {fix(2), num(heap.KindInt, "02"), 4}, {num(heap.KindInt, "02"), num(heap.KindInt, "02"), 4}, {num(heap.KindInt, "99999999999999999999"), num(heap.KindInt, "99999999999999999999"), 1}, {num(heap.KindInt, strings.Repeat("9", 20001)), num(heap.KindInt, strings.Repeat("9", 20001)), 4},
		{num(heap.KindRatio, "1/2"), num(heap.KindRatio, "1/2"), 1}, {num(heap.KindRatio, "2/4"), num(heap.KindRatio, "2/4"), 4}, {num(heap.KindRatio, "1/2"), num(heap.KindSingle, "3f000000"), 3},
		{two, num(heap.KindSingle, "40000000"), 1}, {two, fix(2), 3}, {two, num(heap.KindDouble, "4000000000000000"), 3}, {num(heap.KindDouble, "3fb999999999999a"), num(heap.KindSingle, "3dcccccd"), 4},
		{num(heap.KindSingle, "00000000"), num(heap.KindSingle, "80000000"), 3}, {num(heap.KindSingle, "7f800000"), num(heap.KindSingle, "7f800000"), 4}, {obj(heap.KindInt, fix(1)), obj(heap.KindInt, fix(1)), 4}, {num(heap.KindComplex, "1"), num(heap.KindComplex, "1"), 4},
		{obj(heap.KindComplex, fix(1), fix(2)), obj(heap.KindComplex, fix(1), num(heap.KindInt, "2")), 1}, {obj(heap.KindComplex, fix(1), fix(2)), obj(heap.KindComplex, one, two), 3}, {obj(heap.KindComplex, one, num(heap.KindSingle, "00000000")), fix(1), 3},
		{obj(heap.KindComplex, fix(1), fix(0)), obj(heap.KindComplex, fix(1), fix(0)), 4}, {obj(heap.KindComplex, fix(1), two), obj(heap.KindComplex, fix(1), two), 4}, {obj(heap.KindComplex, fix(1)), obj(heap.KindComplex, fix(1)), 4}, {obj(heap.KindComplex, fix(1), char('a')), obj(heap.KindComplex, fix(1), char('a')), 4},
		{str("ab"), str("ab"), 2}, {str("ab"), str("aB"), 3}, {str(""), str(""), 2}, {str("ab"), str("abc"), 4}, {str("é"), str("É"), 4}, {str("\xff"), str("\xfe"), 3}, {str("\xff"), str("\uFFFD"), 3}, {str("\xed\xa0\x80"), vec(char(65533), char(65533), char(65533)), 3}, {obj(heap.KindString), obj(heap.KindString), 4}, {obj(heap.KindString), str(""), 4},
		{bits("10"), bits("10"), 2}, {bits("10"), bits("12"), 3}, {bits("10"), bits("11"), 4}, {bits("\xc3\xa9"), vec(fix(0), fix(0)), 3}, {bits("1"), str("1"), 4}, {bits(""), str(""), 3}, {bits("10"), vec(one, fix(0)), 3}, {obj(heap.KindBits), obj(heap.KindBits), 4},
		{str("Ab"), vec(char('a'), char('B')), 3}, {str("\xff"), vec(char(65533)), 3}, {vec(), vec(), 3}, {vec(), str(""), 3}, {vec(fix(1)), vec(fix(1), fix(1)), 4}, {vec(str("a")), vec(str("A")), 3}, {vec(fix(1)), vec(char('1')), 4}, {num(heap.KindVector, ""), vec(), 4},
		{char('a'), char('A'), 3}, {char('z'), char('Z'), 3}, {char('@'), char('`'), 4}, {char('['), char('{'), 4}, {char(0xe9), char(0xc9), 4},
		{cons(fix(1), fix(2)), cons(fix(1), fix(2)), 2}, {cons(fix(1), fix(2)), cons(one, two), 3}, {cons(fix(1), fix(2)), cons(fix(1), fix(3)), 4}, {cons(str("a"), cons(fix(1), heap.Nil)), cons(str("a"), cons(fix(1), heap.Nil)), 2}, {cons(vec(fix(1)), heap.Nil), cons(vec(fix(1)), heap.Nil), 3}, {cons(shared, fix(1)), cons(shared, fix(1)), 2}, {cons(vec(), fix(1)), vec(vec(), fix(1)), 4},
		{obj(heap.KindCons, fix(1)), obj(heap.KindCons, fix(1)), 4}, {obj(heap.KindCons, fix(1), fix(2), fix(3)), obj(heap.KindCons, fix(1), fix(2), fix(3)), 4}, {num(heap.KindCons, "ab"), num(heap.KindCons, "ab"), 4}, {obj(heap.KindBox, fix(1)), obj(heap.KindBox, fix(1)), 4}, {obj(heap.KindSymbol), obj(heap.KindSymbol), 4},
		{arr(vec(fix(1), fix(2)), vec(fix(5), fix(6))), arr(vec(fix(1), fix(2)), vec(fix(5), fix(6))), 3}, {arr(vec(fix(1), fix(2)), vec(fix(5), fix(6))), arr(vec(fix(2), fix(1)), vec(fix(5), fix(6))), 4}, {arr(vec(fix(2)), vec(fix(5), fix(6))), vec(fix(5), fix(6)), 3}, {arr(vec(fix(2)), vec(char('a'), char('b'))), str("AB"), 3}, {arr(vec(fix(1)), bits("1")), bits("1"), 4},
		{arr(vec(fix(3)), vec(fix(5), fix(6))), vec(fix(5), fix(6), fix(7)), 4}, {arr(vec(fix(2)), vec(fix(5), fix(6), fix(7))), vec(fix(5), fix(6)), 4}, {arr(vec(fix(2)), vec(fix(5), fix(6), fix(7))), arr(vec(fix(2)), vec(fix(5), fix(6))), 4}, {arr(vec(num(heap.KindInt, "2")), vec(fix(5), fix(6))), vec(fix(5), fix(6)), 4}, {arr(vec(), vec(fix(1))), arr(vec(), vec(one)), 3}, {arr(vec(), vec(fix(1))), vec(fix(1)), 4},
		{arr(vec(char('x')), vec()), arr(vec(char('x')), vec()), 3}, {arr(shared, shared), shared, 3}, {arr(cons(fix(1), fix(2)), vec(fix(5))), arr(cons(fix(1), fix(2)), vec(fix(5))), 4}, {arr(vec(fix(1)), str("a")), arr(vec(fix(1)), str("a")), 4}, {obj(heap.KindArray, vec(fix(0))), vec(), 4}, {obj(heap.KindArray, vec(fix(0)), vec(), vec()), vec(), 4}, {arr(num(heap.KindVector, ""), vec()), arr(num(heap.KindVector, ""), vec()), 4},
	} {
		for test := table.Eq; test <= table.EqualpTest; test++ {
			if got, turned := same(t, h, test, x.a, x.b), same(t, h, test, x.b, x.a); got != (test >= x.test) || turned != got {
				t.Errorf("pair %d (%d, %d) by the test %d: %v, %v", i, x.a, x.b, test, got, turned)
			}
		}
	}
}

// ring returns a circle of conses with these cars.
func ring(t *testing.T, h *heap.Heap, cars ...heap.Word) heap.Word {
	l := make([]heap.Word, len(cars))
	for i, car := range cars {
		l[i] = object(t, h, heap.KindCons, car, heap.Nil)
	}
	for i, c := range l {
		h.Set(c, 1, l[(i+1)%len(l)])
	}
	return l[0]
}

func TestP17_2Circles(t *testing.T) {
	h := empty(t, 65536)
	for _, x := range []struct {
		a, b heap.Word
		want bool
	}{
		{ring(t, h, fix(1)), ring(t, h, fix(1), fix(1)), true},
		{ring(t, h, fix(1), fix(2)), ring(t, h, fix(1), fix(2), fix(1), fix(2), fix(1), fix(2)), true},
		{ring(t, h, fix(1), fix(2)), ring(t, h, fix(1), fix(2), fix(1)), false},
		{ring(t, h, slices.Repeat([]heap.Word{fix(1)}, 4999)...), ring(t, h, slices.Repeat([]heap.Word{fix(1)}, 5003)...), true},
		{ring(t, h, slices.Repeat([]heap.Word{fix(1)}, 4999)...), ring(t, h, append(slices.Repeat([]heap.Word{fix(1)}, 4999), fix(2))...), false},
	} {
		for test := table.EqualTest; test <= table.EqualpTest; test++ {
			if got, turned := same(t, h, test, x.a, x.b), same(t, h, test, x.b, x.a); got != x.want || turned != got {
				t.Errorf("two circles by the test %d: %v, %v", test, got, turned)
			}
		}
	}
}

// What is shared is compared once, not as often as ways lead to it.
func TestP17_2Shared(t *testing.T) {
	tree := func(h *heap.Heap, leaf heap.Word) heap.Word {
		for range 60 {
			leaf = object(t, h, heap.KindCons, leaf, leaf)
		}
		return leaf
	}
	wide := func(h *heap.Heap, x heap.Word) heap.Word {
		return object(t, h, heap.KindVector, slices.Repeat([]heap.Word{x}, 5000)...)
	}
	list := func(h *heap.Heap, x heap.Word) heap.Word {
		l := heap.Nil
		for range 5000 {
			l = object(t, h, heap.KindCons, x, l)
		}
		return l
	}
	digits := func(h *heap.Heap) heap.Word { return raw(t, h, heap.KindInt, "1"+strings.Repeat("7", 19000)) }
	text := func(h *heap.Heap) heap.Word { return raw(t, h, heap.KindString, strings.Repeat("long ", 16000)) }
	arrays := func(h *heap.Heap, elements heap.Word) heap.Word {
		l := make([]heap.Word, 1000)
		for i := range l {
			l[i] = object(t, h, heap.KindArray, object(t, h, heap.KindVector, fix(5000)), elements)
		}
		return object(t, h, heap.KindVector, l...)
	}
	for i, f := range []func(h *heap.Heap) heap.Word{
		func(h *heap.Heap) heap.Word { return tree(h, fix(1)) },
		func(h *heap.Heap) heap.Word { return wide(h, digits(h)) },
		func(h *heap.Heap) heap.Word { return wide(h, text(h)) },
		func(h *heap.Heap) heap.Word { return list(h, text(h)) },
		func(h *heap.Heap) heap.Word { return arrays(h, wide(h, fix(1))) },
	} {
		h := empty(t, 65536)
		a, b := f(h), f(h)
		if !same(t, h, table.EqualpTest, a, b) {
			t.Errorf("pair %d is not equalp", i)
		}
		if got := same(t, h, table.EqualTest, a, b); got != (i == 0 || i == 3) {
			t.Errorf("pair %d by Equal: %v", i, got)
		}
	}
	h := empty(t, 65536)
	if same(t, h, table.EqualTest, tree(h, fix(1)), tree(h, fix(2))) {
		t.Error("trees with other leaves are equal")
	}
}

// Objects as deep as a heap has room for.
func TestP17_2Deep(t *testing.T) {
	for _, kind := range []int{heap.KindCons, heap.KindVector} {
		h := empty(t, 65536)
		nest := func(leaf heap.Word) heap.Word {
			fields := []heap.Word{leaf, heap.Nil}
			if kind == heap.KindVector {
				fields = fields[:1]
			}
			for range 32000 / (1 + len(fields)) {
				fields[0] = object(t, h, kind, fields...)
			}
			return fields[0]
		}
		a, b := nest(fix(1)), nest(fix(1))
		if !same(t, h, table.EqualpTest, a, b) {
			t.Errorf("two deep objects of the kind %d are not equalp", kind)
		}
		for test := table.Eq; test <= table.EqualpTest; test++ {
			if _, e := table.Hash(h, test, a); e != api.OK {
				t.Errorf("Hash: %v", e)
			}
		}
	}
}

func TestP17_1HashOfFixnums(t *testing.T) {
	h := empty(t, 64)
	for test := table.Eq; test <= table.EqualpTest; test++ {
		for _, first := range []int64{0, 1, 1000, 1 << 40, 1<<60 - 64} {
			met := map[uint64]bool{}
			for i := range int64(64) {
				x, e := table.Hash(h, test, fix(first+i))
				if e != api.OK {
					t.Fatal(e)
				}
				met[x] = true
			}
			if len(met) < 60 {
				t.Errorf("64 fixnums from %d on have %d hashes by the test %d", first, len(met), test)
			}
		}
	}
}

func TestP17_1RelationErrors(t *testing.T) {
	h := empty(t, 64)
	bad := []heap.Word{4, 7, 10, 55296<<3 | 1, 51, 1<<63 | 3}
	for name, f := range map[string]func(h *heap.Heap, a, b heap.Word) (bool, api.Errno){"Eql": table.Eql, "Equal": table.Equal, "Equalp": table.Equalp} {
		if ok, e := f(nil, 7, 7); ok || e != api.ErrArg {
			t.Errorf("%s of a nil heap: %v, %v", name, ok, e)
		}
		for _, w := range bad {
			for _, pair := range [][2]heap.Word{{w, w}, {w, 0}, {heap.Nil, w}} {
				if ok, e := f(h, pair[0], pair[1]); ok || e != heap.ErrWord {
					t.Errorf("%s(%d, %d) = %v, %v", name, pair[0], pair[1], ok, e)
				}
			}
		}
	}
	for _, x := range []struct {
		h    *heap.Heap
		test int
		w    heap.Word
		e    api.Errno
	}{{nil, 9, 7, api.ErrArg}, {h, 9, 7, heap.ErrWord}, {h, 0, 51, heap.ErrWord}, {h, 4, heap.Nil, api.ErrArg}, {h, -1, 0, api.ErrArg}} {
		if n, e := table.Hash(x.h, x.test, x.w); n != 0 || e != x.e {
			t.Errorf("Hash(%d, %d) = %d, %v, not %v", x.test, x.w, n, e, x.e)
		}
	}
}
