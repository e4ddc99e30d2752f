package forms

import (
	"fmt"
	"math/rand/v2"
	"slices"
	"strconv"
	"strings"
	"testing"

	"commonform/api"
)

// brief shows the beginning of a value.
func brief(x any) string { return fmt.Sprintf("%.90s", fmt.Sprint(x)) }

func node(kind int, text string, kids ...api.Form) api.Form {
	return api.Form{Kind: kind, Text: text, Kids: kids}
}

func num(s string) api.Form { return node(api.FormInt, s) }

func str(s string) api.Form { return node(api.FormString, s) }

func vec(kids ...api.Form) api.Form { return node(api.FormVector, "", kids...) }

func dot(kids ...api.Form) api.Form { return node(api.FormCons, "", kids...) }

func lab(n string, kid api.Form) api.Form { return node(api.FormLabel, n, kid) }

func ref(n string) api.Form { return node(api.FormRef, n) }

func sym(name string) api.Form { return Symbol("P", name) }

func list(kids ...api.Form) api.Form { return dot(append(slices.Clone(kids), Nil())...) }

// deep returns a form of a depth.
func deep(depth int) api.Form {
	f := vec()
	for range depth - 1 {
		f = vec(f)
	}
	return f
}

// wide returns a vector with so many nodes.
func wide(nodes int) api.Form {
	return vec(slices.Repeat([]api.Form{num("1")}, nodes-1)...)
}

// generator makes right forms with labels and references.
type generator struct {
	r      *rand.Rand
	labels []string
	texts  []string // for labels that come
	nodes  int
}

func newGenerator(r *rand.Rand) *generator {
	g := &generator{r: r}
	for _, n := range r.Perm(1000) {
		g.texts = append(g.texts, strconv.Itoa(n))
	}
	return g
}

func (g *generator) form(depth int) api.Form {
	g.nodes++
	switch n := g.r.IntN(10); {
	case n < 3 && len(g.labels) > 0:
		return ref(g.labels[g.r.IntN(len(g.labels))])
	case n < 5 && len(g.texts) > 0:
		text := g.texts[0]
		g.texts = g.texts[1:]
		g.labels = append(g.labels, text)
		return lab(text, g.plain(depth))
	}
	return g.plain(depth)
}

// plain makes a form that is neither a label nor a reference.
func (g *generator) plain(depth int) api.Form {
	atoms := []api.Form{Nil(), sym("A"), sym("B"), Symbol("", "A"), num("0"), num("-5"), node(api.FormRatio, "1/2"), node(api.FormSingle, "3f800000"), node(api.FormDouble, "3ff0000000000000"), node(api.FormComplex, "", num("1"), num("2")), node(api.FormChar, "x"), str("x"), str(""), node(api.FormBits, "01"), vec(), node(api.FormArray, "0 2")}
	if depth == 0 || g.nodes > 150 || g.r.IntN(4) == 0 {
		return clone(atoms[g.r.IntN(len(atoms))])
	}
	var kids []api.Form
	for range 1 + g.r.IntN(4) {
		kids = append(kids, g.form(depth-1))
	}
	switch g.r.IntN(5) {
	case 0:
		return vec(kids...)
	case 1:
		return node(api.FormArray, "1 "+strconv.Itoa(len(kids)), kids...)
	case 2:
		return list(kids...)
	}
	tail := g.form(depth - 1)
	for tail.Kind == api.FormCons {
		tail = tail.Kids[len(tail.Kids)-1]
	}
	return dot(append(kids, tail)...)
}

// randomForms returns right forms; some of them are circular.
func randomForms(t *testing.T, seed uint64, count int) []api.Form {
	r := rand.New(rand.NewPCG(1, seed))
	var out []api.Form
	for len(out) < count {
		f := newGenerator(r).form(2 + r.IntN(4))
		switch e := Check(f); e {
		case api.OK:
			out = append(out, f)
		case ErrLabel: // a tail that was taken out of a list may have had labels
		default:
			t.Fatalf("Check(%v) = %v", f, e)
		}
	}
	return out
}

func TestP1_1Check(t *testing.T) {
	one, half, single, double := num("1"), node(api.FormRatio, "1/2"), node(api.FormSingle, "3f800000"), node(api.FormDouble, "3ff0000000000000")
	for _, f := range []api.Form{
		Nil(), Symbol("", ""), Symbol("É", "x y"), num("0"), num("-1"), num("10"), num(strings.Repeat("9", 3000)), half, node(api.FormRatio, "-3/2"), node(api.FormRatio, "1000000000000000000/2"), node(api.FormRatio, "-2/1000000000000000000"), node(api.FormRatio, "999999999999999999/1000000000000000000"), single, node(api.FormSingle, "ffffffff"), double, node(api.FormDouble, "7ff0000000000000"),
		node(api.FormComplex, "", one, half), node(api.FormComplex, "", num("0"), num("-1")), node(api.FormComplex, "", single, node(api.FormSingle, "00000000")), node(api.FormComplex, "", double, double),
		node(api.FormChar, "x"), node(api.FormChar, "é"), node(api.FormChar, "\U0010ffff"), node(api.FormChar, "\x00"), str(""), str("a\nb\"é"), node(api.FormBits, ""), node(api.FormBits, "0110"),
		dot(one, one), dot(one, ref1(dot(one, ref("1")))), list(one), list(Nil(), vec()), vec(), vec(vec(), one), node(api.FormArray, "", one), node(api.FormArray, "0 2000"), node(api.FormArray, "1 1 1 1 1 1 1", one), node(api.FormArray, "2 1", one, half), node(api.FormArray, "2000 2000 2000 2000 2000 2000 0"),
		lab("0", vec(ref("0"))), lab("999", one), vec(lab("7", str("x")), ref("7"), ref("7")), vec(lab("1", vec(lab("0", vec()))), ref("0"), ref("1")), dot(one, lab("0", dot(one, ref("0")))),
		wide(api.MaxForm), deep(api.MaxDepth),
	} {
		if e := Check(f); e != api.OK {
			t.Errorf("Check(%s) = %v", brief(f), e)
		}
	}
	for _, f := range wrongForms() {
		if e := Check(f); e != api.ErrForm {
			t.Errorf("Check(%s) = %v; want ErrForm", brief(f), e)
		}
	}
	for _, c := range []struct {
		f api.Form
		e api.Errno
	}{
		{wide(api.MaxForm + 1), api.ErrSize}, {deep(api.MaxDepth + 1), api.ErrSize}, {vec(num("01"), wide(api.MaxForm)), api.ErrSize}, {vec(ref("5"), deep(api.MaxDepth)), api.ErrSize}, {vec(ref("5"), num("01")), api.ErrForm}, {vec(lab("0", ref("0")), num("01")), api.ErrForm},
		{ref("0"), ErrLabel}, {vec(ref("0"), lab("0", vec())), ErrLabel}, {lab("0", ref("0")), ErrLabel}, {lab("0", lab("1", vec())), ErrLabel}, {vec(lab("0", vec()), lab("0", vec())), api.ErrTwice}, {lab("0", vec(lab("0", vec()))), api.ErrTwice}, {vec(lab("0", vec()), lab("0", ref("9"))), api.ErrTwice}, {vec(ref("9"), lab("0", vec()), lab("0", vec())), ErrLabel}, {vec(lab("0", vec()), lab("0", vec()), ref("9")), api.ErrTwice}, {vec(lab("1", lab("1", vec()))), ErrLabel}, {vec(lab("0", vec()), ref("00")), api.ErrForm},
	} {
		if e := Check(c.f); e != c.e {
			t.Errorf("Check(%s) = %v; want %v", brief(c.f), e, c.e)
		}
	}
}

func ref1(f api.Form) api.Form { return lab("1", f) }

// wrongForms are forms with a node that is not as the table says.
func wrongForms() []api.Form {
	one, single, double := num("1"), node(api.FormSingle, "3f800000"), node(api.FormDouble, "3ff0000000000000")
	out := []api.Form{
		{}, {Kind: -1}, {Kind: 15}, {Kind: 1 << 40}, {Kind: api.FormSymbol, Kids: []api.Form{one}}, {Kind: api.FormSymbol, Text: "\xff"}, {Kind: api.FormSymbol, Home: "\xff"},
		num(""), num("-"), num("01"), num("-0"), num("00"), num("+1"), num("1a"), num("1 "), num("--1"), num("٣"), {Kind: api.FormInt, Text: "1", Home: "X"}, node(api.FormInt, "1", one),
		node(api.FormRatio, ""), node(api.FormRatio, "1"), node(api.FormRatio, "1/1"), node(api.FormRatio, "0/2"), node(api.FormRatio, "1/0"), node(api.FormRatio, "2/4"), node(api.FormRatio, "-6/3"), node(api.FormRatio, "1/-2"), node(api.FormRatio, "-0/2"), node(api.FormRatio, "01/2"), node(api.FormRatio, "1/02"), node(api.FormRatio, "1/2/3"), node(api.FormRatio, "/2"), node(api.FormRatio, "1/"), node(api.FormRatio, "999999999999999999/3"), node(api.FormRatio, "-999999999999999999/3"), node(api.FormRatio, "01000000000000000000/3"), node(api.FormRatio, "1/2", one),
		node(api.FormSingle, "3f80000"), node(api.FormSingle, "3f8000000"), node(api.FormSingle, "3F800000"), node(api.FormSingle, "3f80000g"), node(api.FormSingle, ""), node(api.FormDouble, "3f800000"), node(api.FormDouble, "3ff000000000000G"), {Kind: api.FormSingle, Text: "3f800000", Home: "X"},
		node(api.FormComplex, ""), node(api.FormComplex, "", one), node(api.FormComplex, "", one, one, one), node(api.FormComplex, "", one, num("0")), node(api.FormComplex, "", one, single), node(api.FormComplex, "", single, one), node(api.FormComplex, "", single, double), node(api.FormComplex, "", one, str("1")), node(api.FormComplex, "", node(api.FormComplex, "", one, one), one), node(api.FormComplex, "", lab("0", one), one), node(api.FormComplex, "x", one, one), node(api.FormComplex, "", one, num("01")), node(api.FormComplex, "", str(""), str("")),
		node(api.FormChar, ""), node(api.FormChar, "ab"), node(api.FormChar, "\xff"), node(api.FormChar, "\xed\xa0\x80"), node(api.FormChar, "é\xff"), str("\xff"), str("a\xc3"), node(api.FormString, "x", one), {Kind: api.FormString, Home: "X"}, node(api.FormBits, "012"), node(api.FormBits, " "), node(api.FormBits, "0", one),
		dot(), dot(one), dot(one, list(one)), node(api.FormCons, "x", one, one), {Kind: api.FormCons, Home: "X", Kids: []api.Form{one, one}}, node(api.FormVector, "0"), {Kind: api.FormVector, Home: "X"},
		node(api.FormArray, "1", one), node(api.FormArray, "0"), node(api.FormArray, ""), node(api.FormArray, "", one, one), node(api.FormArray, "2 2", one), node(api.FormArray, "1  1", one), node(api.FormArray, " 1 1", one), node(api.FormArray, "1 1 ", one), node(api.FormArray, "01 1", one), node(api.FormArray, "1 x", one), node(api.FormArray, "-1 1", one), node(api.FormArray, "0 2001"), node(api.FormArray, "1 1 1 1 1 1 1 1", one), node(api.FormArray, " ", one), node(api.FormArray, "0 99999999999999999999"), node(api.FormArray, "2000 2000 2000 2000 2000 2000 2000"), {Kind: api.FormArray, Home: "X", Kids: []api.Form{one}},
		lab("", one), lab("00", one), lab("1000", one), lab("-1", one), lab("x", one), node(api.FormLabel, "0"), node(api.FormLabel, "0", one, one), {Kind: api.FormLabel, Text: "0", Home: "X", Kids: []api.Form{one}},
		vec(lab("0", vec()), ref("")), vec(lab("0", vec()), node(api.FormRef, "0", one)), vec(lab("0", vec()), api.Form{Kind: api.FormRef, Text: "0", Home: "X"}),
	}
	for _, f := range slices.Clone(out) {
		out = append(out, vec(one, f))
	}
	return out
}

func TestP1_1Trees(t *testing.T) {
	if n, d := Size(api.Form{}); n != 1 || d != 1 {
		t.Errorf("Size of one node: %d, %d", n, d)
	}
	if n, d := Size(vec(vec(), vec(vec(), vec(vec())))); n != 6 || d != 4 {
		t.Errorf("Size: %d, %d", n, d)
	}
	if n, d := Size(deep(3000)); n != 3000 || d != 3000 {
		t.Errorf("Size of a deep form: %d, %d", n, d)
	}
	if f := Symbol("H", "N"); f.Kind != api.FormSymbol || f.Home != "H" || f.Text != "N" || len(f.Kids) != 0 {
		t.Errorf("Symbol: %v", f)
	}
	if f := Nil(); f.Kind != api.FormSymbol || f.Home != "COMMON-LISP" || f.Text != "NIL" {
		t.Errorf("Nil: %v", f)
	}
	odd := Nil()
	odd.Kids = []api.Form{{}}
	for _, c := range []struct {
		f     api.Form
		isNil bool
	}{{Nil(), true}, {odd, true}, {Symbol("", "NIL"), false}, {Symbol("COMMON-LISP", "nil"), false}, {api.Form{Kind: api.FormString, Text: "NIL", Home: "COMMON-LISP"}, false}, {dot(), false}, {api.Form{}, false}} {
		if IsNil(c.f) != c.isNil || Is(c.f, "COMMON-LISP", "NIL") != c.isNil {
			t.Errorf("IsNil(%v) = %v", c.f, IsNil(c.f))
		}
	}
	if !Is(sym("A"), "P", "A") || Is(sym("A"), "Q", "A") || Is(sym("A"), "P", "B") || Is(str("A"), "", "A") {
		t.Error("Is")
	}
	for kind := -1; kind < 20; kind++ {
		if Number(api.Form{Kind: kind}) != (kind >= 2 && kind <= 6) {
			t.Errorf("Number of the kind %d", kind)
		}
	}
	for _, c := range []struct {
		a, b  api.Form
		equal bool
	}{{vec(num("1")), vec(num("1")), true}, {api.Form{Kids: []api.Form{}}, api.Form{}, true}, {vec(num("1")), vec(num("2")), false}, {vec(num("1")), vec(num("1"), num("1")), false}, {Symbol("A", "x"), Symbol("B", "x"), false}, {str("x"), sym("x"), false}, {lab("0", vec()), lab("1", vec()), false}} {
		if Equal(c.a, c.b) != c.equal || Equal(c.b, c.a) != c.equal {
			t.Errorf("Equal(%v, %v) is not %v", c.a, c.b, c.equal)
		}
	}
}

func TestP1_1Lists(t *testing.T) {
	a, b, c := sym("A"), sym("B"), sym("C")
	for i, x := range []struct{ got, want api.Form }{
		{List(nil), Nil()}, {List([]api.Form{a, b}), dot(a, b, Nil())}, {Dotted(nil, a), a}, {Dotted([]api.Form{a}, list(b, c)), list(a, b, c)}, {Dotted([]api.Form{a}, b), dot(a, b)}, {Dotted([]api.Form{a}, dot()), dot(a)}, {Dotted([]api.Form{list(a)}, Nil()), list(list(a))}, {Dotted([]api.Form{a}, node(api.FormCons, "x", b, c)), dot(a, b, c)}, {Call("CAR", []api.Form{a}), list(Symbol("COMMON-LISP", "CAR"), a)}, {Call("LIST", nil), list(Symbol("COMMON-LISP", "LIST"))}, {Dotted([]api.Form{a}, lab("0", list(b))), dot(a, lab("0", list(b)))},
	} {
		if !Equal(x.got, x.want) {
			t.Errorf("%d: %v; want %v", i, x.got, x.want)
		}
	}
	for _, x := range []struct {
		f      api.Form
		l      []api.Form
		tail   api.Form
		proper bool
	}{
		{Nil(), nil, Nil(), true}, {list(a, b), []api.Form{a, b}, Nil(), true}, {dot(a, b), []api.Form{a}, b, false}, {a, nil, a, false}, {dot(a), nil, dot(a), false}, {dot(), nil, dot(), false}, {vec(a, Nil()), nil, vec(a, Nil()), false}, {dot(a, dot(b, Nil())), []api.Form{a}, dot(b, Nil()), false}, {dot(a, lab("0", list(b))), []api.Form{a}, lab("0", list(b)), false},
	} {
		l, tail := Spread(x.f)
		if !slices.EqualFunc(l, x.l, Equal) || !Equal(tail, x.tail) {
			t.Errorf("Spread(%v) = %v, %v", x.f, l, tail)
		}
		l, ok := Items(x.f)
		if ok != x.proper || ok && !slices.EqualFunc(l, x.l, Equal) || !ok && len(l) != 0 {
			t.Errorf("Items(%v) = %v, %v", x.f, l, ok)
		}
	}
	// Results share no memory with arguments, nor do they write behind the end of a list.
	kids := []api.Form{vec(a), vec(b), vec(c)}
	x := List(kids[:2])
	y := Dotted(kids[:1], kids[1])
	l, _ := Items(x)
	x.Kids[0].Kids[0] = c
	y.Kids[1].Kids[0] = c
	l[1].Kids[0] = c
	if !Equal(kids[0], vec(a)) || !Equal(kids[1], vec(b)) || !Equal(kids[2], vec(c)) || !Equal(x.Kids[1], vec(b)) {
		t.Errorf("shared memory: %v, %v", kids, x)
	}
}

func TestP1_1Dimensions(t *testing.T) {
	one := num("1")
	for _, c := range []struct {
		f    api.Form
		want []int
		e    api.Errno
	}{
		{node(api.FormArray, "", one), nil, api.OK}, {node(api.FormArray, "2 0 30"), []int{2, 0, 30}, api.OK}, {vec(), []int{0}, api.OK}, {vec(one, one), []int{2}, api.OK}, {str("aé\U0001f600"), []int{3}, api.OK}, {node(api.FormBits, "010"), []int{3}, api.OK},
		{sym("A"), nil, api.ErrArg}, {list(one), nil, api.ErrArg}, {api.Form{}, nil, api.ErrArg}, {lab("0", vec()), nil, api.ErrArg}, {num("01"), nil, api.ErrArg}, {str("\xff"), nil, api.ErrForm}, {vec(num("01")), nil, api.ErrForm}, {node(api.FormArray, "3 3"), nil, api.ErrForm}, {vec(ref("0")), nil, ErrLabel}, {wide(api.MaxForm + 1), nil, api.ErrSize}, {node(api.FormBits, "2"), nil, api.ErrForm},
	} {
		if d, e := Dimensions(c.f); e != c.e || !slices.Equal(d, c.want) {
			t.Errorf("Dimensions(%s) = %v, %v", brief(c.f), d, e)
		}
	}
}

func TestP1_1Labels(t *testing.T) {
	one, half := num("1"), node(api.FormComplex, "", num("1"), num("2"))
	for i, c := range []struct{ f, normal, plain api.Form }{
		{vec(lab("3", vec()), lab("7", vec()), ref("7")), vec(vec(), lab("0", vec()), ref("0")), vec(vec(), vec(), vec())},
		{dot(one, lab("1", list(one))), list(one, one), list(one, one)},
		{dot(one, lab("1", list(one)), ref("1")), dot(one, lab("0", list(one)), ref("0")), dot(one, list(one), one, Nil())},
		{vec(lab("5", one), ref("5")), vec(one, one), vec(one, one)}, {vec(lab("5", sym("A")), ref("5"), ref("5")), vec(sym("A"), sym("A"), sym("A")), vec(sym("A"), sym("A"), sym("A"))}, {vec(lab("5", node(api.FormChar, "x")), ref("5")), vec(node(api.FormChar, "x"), node(api.FormChar, "x")), vec(node(api.FormChar, "x"), node(api.FormChar, "x"))}, {vec(lab("5", half), ref("5")), vec(half, half), vec(half, half)},
		{vec(lab("5", str("x")), ref("5")), vec(lab("0", str("x")), ref("0")), vec(str("x"), str("x"))}, {vec(lab("5", node(api.FormBits, "1")), ref("5")), vec(lab("0", node(api.FormBits, "1")), ref("0")), vec(node(api.FormBits, "1"), node(api.FormBits, "1"))},
		{dot(lab("1", Nil()), ref("1")), list(Nil()), list(Nil())}, {lab("9", one), one, one}, {lab("9", vec(one)), vec(one), vec(one)},
		{vec(lab("2", vec(lab("1", vec()))), ref("1"), ref("2")), vec(lab("0", vec(lab("1", vec()))), ref("1"), ref("0")), vec(vec(vec()), vec(), vec(vec()))},
		{vec(lab("0", dot(one, one)), dot(one, ref("0"))), vec(lab("0", dot(one, one)), dot(one, ref("0"))), vec(dot(one, one), dot(one, one, one))},
		{vec(lab("0", list(one)), lab("1", dot(one, ref("0"))), dot(one, ref("1"))), vec(lab("0", list(one)), lab("1", dot(one, ref("0"))), dot(one, ref("1"))), vec(list(one), list(one, one), list(one, one, one))},
	} {
		if x, e := Normal(c.f); e != api.OK || !Equal(x, c.normal) {
			t.Errorf("%d: Normal(%v) = %v, %v; want %v", i, c.f, x, e, c.normal)
		}
		if x, e := Plain(c.f); e != api.OK || !Equal(x, c.plain) {
			t.Errorf("%d: Plain(%v) = %v, %v; want %v", i, c.f, x, e, c.plain)
		}
		if is, e := Same(c.f, c.normal); e != api.OK || !is {
			t.Errorf("%d: Same: %v, %v", i, is, e)
		}
	}
	for _, f := range []api.Form{lab("5", vec(ref("5"))), lab("5", dot(one, ref("5"))), vec(lab("0", vec(lab("1", vec(ref("0"))))), ref("1")), dot(one, lab("0", dot(one, ref("0"))))} {
		if x, e := Plain(f); e != ErrCircle || x.Kind != 0 || len(x.Kids) != 0 {
			t.Errorf("Plain(%v) = %v, %v", f, x, e)
		}
		if x, e := Normal(f); e != api.OK || x.Kind != f.Kind {
			t.Errorf("Normal(%v) = %v, %v", f, x, e)
		}
	}
	for _, f := range append(wrongForms(), ref("0")) {
		x, e1 := Normal(f)
		y, e2 := Plain(f)
		is, e3 := Same(f, one)
		also, e4 := Same(one, f)
		if want := Check(f); e1 != want || e2 != want || e3 != want || e4 != want || is || also || !Equal(x, api.Form{}) || !Equal(y, api.Form{}) {
			t.Errorf("%s: %v, %v, %v, %v; want %v", brief(f), e1, e2, e3, e4, want)
		}
	}
	if is, e := Same(ref("0"), num("01")); is || e != ErrLabel {
		t.Errorf("Same: %v, %v", is, e)
	}
}

// With references to one part, each copy of it has memory of its own.
func TestP1_1LabelMemory(t *testing.T) {
	pair := node(api.FormComplex, "", num("1"), num("2"))
	f := vec(lab("0", pair), ref("0"), ref("0"), lab("1", vec(pair)), ref("1"))
	before := clone(f)
	x, _ := Normal(f)
	y, _ := Plain(f)
	for _, z := range []api.Form{x, y} {
		want := clone(z)
		z.Kids[1].Kids[0].Text = "9"
		z.Kids[3].Kids[0].Kids[0].Text = "9"
		if !Equal(f, before) || !Equal(z.Kids[0], want.Kids[0]) || !Equal(z.Kids[2], want.Kids[2]) || !Equal(z.Kids[4], want.Kids[4]) {
			t.Errorf("shared memory: %v, %v", f, z)
		}
	}
}

func TestP1_1LabelLimits(t *testing.T) {
	pair := node(api.FormComplex, "", num("1"), num("2"))
	// A complex number in place of a reference has two nodes more, and is deeper.
	refs := slices.Repeat([]api.Form{ref("0")}, 700)
	if x, e := Normal(vec(append([]api.Form{lab("0", pair)}, refs...)...)); e != api.ErrSize || !Equal(x, api.Form{}) {
		t.Errorf("Normal with many complex numbers: %v", e)
	}
	if _, e := Plain(vec(append([]api.Form{lab("0", pair)}, refs...)...)); e != api.ErrSize {
		t.Errorf("Plain with many complex numbers: %v", e)
	}
	if is, e := Same(vec(append([]api.Form{lab("0", pair)}, refs...)...), vec()); is || e != api.ErrSize {
		t.Errorf("Same with many complex numbers: %v", e)
	}
	if x, e := Normal(vec(append([]api.Form{lab("0", pair)}, refs[:665]...)...)); e != api.OK || len(x.Kids) != 666 {
		t.Errorf("Normal with as many complex numbers as there may be: %v", e)
	}
	inner := ref("0")
	for range api.MaxDepth - 2 {
		inner = vec(inner)
	}
	if _, e := Normal(vec(lab("0", pair), inner)); e != api.ErrSize {
		t.Errorf("Normal with a deep complex number: %v", e)
	}
	if _, e := Normal(vec(lab("0", pair), inner.Kids[0])); e != api.OK {
		t.Errorf("Normal with a complex number at the limit: %v", e)
	}
	// References of references: each level doubles what they stand for.
	kids := []api.Form{lab("0", vec())}
	for i := range 60 {
		r := ref(strconv.Itoa(i))
		kids = append(kids, lab(strconv.Itoa(i+1), vec(r, r)))
	}
	if _, e := Plain(vec(kids...)); e != api.ErrSize {
		t.Errorf("Plain of a form that doubles: %v", e)
	}
	if x, e := Plain(vec(kids[:9]...)); e != api.OK || len(x.Kids) != 9 {
		t.Errorf("Plain of a form that doubles a little: %v", e)
	}
	// Just as many nodes as there may be, and one more.
	half := vec(slices.Repeat([]api.Form{num("1")}, 998)...)
	if x, e := Plain(vec(lab("0", half), ref("0"), num("1"))); e != api.OK {
		n, _ := Size(x)
		t.Errorf("Plain with %d nodes: %v", n, e)
	}
	if _, e := Plain(vec(lab("0", half), ref("0"), num("1"), num("1"))); e != api.ErrSize {
		t.Errorf("Plain with 2001 nodes: %v", e)
	}
	// A list that is the tail of another one is none of the nodes.
	tail := dot(slices.Repeat([]api.Form{num("1")}, 998)...)
	if x, e := Plain(vec(lab("0", tail), dot(num("1"), ref("0")))); e != api.OK || len(x.Kids[1].Kids) != 999 {
		t.Errorf("Plain with a tail: %v", e)
	}
	if _, e := Plain(vec(lab("0", tail), dot(num("1"), num("1"), ref("0")))); e != api.ErrSize {
		t.Errorf("Plain with a tail, too large: %v", e)
	}
	var deeper api.Form = lab("0", deep(60))
	if _, e := Plain(vec(deeper, vec(vec(ref("0"))))); e != api.OK {
		t.Errorf("Plain: %v", e)
	}
	outer := ref("0")
	for range 40 {
		outer = vec(outer)
	}
	if _, e := Plain(vec(deeper, outer)); e != api.ErrSize {
		t.Errorf("Plain, too deep: %v", e)
	}
}

func TestP1_2Lists(t *testing.T) {
	r := rand.New(rand.NewPCG(1, 2))
	l := randomForms(t, 2, 200)
	for range 500 {
		var a, b []api.Form
		for range r.IntN(4) {
			a = append(a, l[r.IntN(200)])
			b = append(b, l[r.IntN(200)])
		}
		tail := l[r.IntN(200)]
		if got, ok := Items(List(a)); !ok || !slices.EqualFunc(got, a, Equal) {
			t.Fatalf("Items of List of %v: %v", a, got)
		}
		if tail.Kind != api.FormCons && len(a) > 0 {
			if got, rest := Spread(Dotted(a, tail)); !slices.EqualFunc(got, a, Equal) || !Equal(rest, tail) {
				t.Fatalf("Spread of Dotted of %v and %v", a, tail)
			}
		}
		if !Equal(Dotted(a, Dotted(b, tail)), Dotted(append(slices.Clone(a), b...), tail)) {
			t.Fatalf("Dotted of %v, %v and %v", a, b, tail)
		}
	}
}

func TestP1_3Sizes(t *testing.T) {
	for _, f := range randomForms(t, 3, 300) {
		n, d := Size(f)
		sum, depth := 1, 0
		for _, kid := range f.Kids {
			k, e := Size(kid)
			sum += k
			depth = max(depth, e)
		}
		m, e := Size(clone(f))
		if n != sum || d != depth+1 || m != n || e != d {
			t.Fatalf("Size of %v: %d, %d", f, n, d)
		}
	}
}

// renamed returns a form with other numbers of labels.
func renamed(f api.Form, names []int) api.Form {
	f = clone(f)
	if f.Kind == api.FormLabel || f.Kind == api.FormRef {
		n, _ := strconv.Atoi(f.Text)
		f.Text = strconv.Itoa(names[n])
	}
	for i, kid := range f.Kids {
		f.Kids[i] = renamed(kid, names)
	}
	return f
}

func labelCount(f api.Form) int {
	n := 0
	for x := range walk(f) {
		if x.Kind == api.FormLabel {
			n++
		}
	}
	return n
}

func TestP1_4Normal(t *testing.T) {
	r := rand.New(rand.NewPCG(1, 4))
	for _, f := range randomForms(t, 4, 1000) {
		before := clone(f)
		n, e := Normal(f)
		if e != api.OK || Check(n) != api.OK || labelCount(n) > labelCount(f) || !Equal(f, before) {
			t.Fatalf("Normal(%v) = %v, %v", f, n, e)
		}
		if again, e := Normal(n); e != api.OK || !Equal(again, n) {
			t.Fatalf("Normal of Normal of %v: %v", f, again)
		}
		if other, e := Normal(renamed(f, r.Perm(1000))); e != api.OK || !Equal(other, n) {
			t.Fatalf("Normal of %v, renamed: %v", f, other)
		}
		if labelCount(f) == 0 && !Equal(f, n) {
			t.Fatalf("Normal of %v, without labels: %v", f, n)
		}
	}
}

func TestP1_5Same(t *testing.T) {
	l := randomForms(t, 5, 60)
	for _, a := range l {
		if is, e := Same(a, a); !is || e != api.OK {
			t.Fatalf("Same(%v) of itself: %v, %v", a, is, e)
		}
		wrapped := lab("1000", a)
		for n := range 1000 {
			if wrapped.Text = strconv.Itoa(n); a.Kind != api.FormLabel && a.Kind != api.FormRef && Check(wrapped) == api.OK {
				if is, e := Same(a, wrapped); !is || e != api.OK {
					t.Fatalf("Same(%v) with a label around it: %v, %v", a, is, e)
				}
				break
			}
		}
	}
	same := make([][]bool, len(l))
	for i, a := range l {
		for _, b := range l {
			is, e := Same(a, b)
			if e != api.OK {
				t.Fatalf("Same(%v, %v): %v", a, b, e)
			}
			same[i] = append(same[i], is)
		}
	}
	for i := range l {
		for k := range l {
			for m := range l {
				if same[i][k] != same[k][i] || same[i][k] && same[k][m] && !same[i][m] {
					t.Fatalf("Same is no equivalence: %v, %v, %v", l[i], l[k], l[m])
				}
			}
		}
	}
	for _, x := range []api.Form{sym("A"), num("1"), node(api.FormRatio, "1/2"), node(api.FormComplex, "", num("1"), num("1")), node(api.FormChar, "x")} {
		if is, e := Same(list(lab("1", x), ref("1")), list(x, x)); !is || e != api.OK {
			t.Errorf("%v, shared or not: %v, %v", x, is, e)
		}
	}
	for _, x := range []api.Form{str("x"), node(api.FormBits, ""), list(num("1")), vec(), node(api.FormArray, "0 0")} {
		if is, e := Same(list(lab("1", x), ref("1")), list(x, x)); is || e != api.OK {
			t.Errorf("%v, shared or not: %v, %v", x, is, e)
		}
	}
}

func TestP1_6Plain(t *testing.T) {
	r := rand.New(rand.NewPCG(1, 6))
	for _, f := range randomForms(t, 6, 1000) {
		p, e := Plain(f)
		n, _ := Normal(f)
		q, d := Plain(n)
		s, c := Plain(renamed(f, r.Perm(1000)))
		if e != d || e != c || !Equal(p, q) || !Equal(p, s) {
			t.Fatalf("Plain(%v) = %v, %v; of Normal %v, %v", f, p, e, q, d)
		}
		if e == api.OK && (labelCount(p) != 0 || Check(p) != api.OK) {
			t.Fatalf("Plain(%v) = %v", f, p)
		}
		if labelCount(f) == 0 && !Equal(p, f) {
			t.Fatalf("Plain of %v, without labels: %v", f, p)
		}
		if e == api.OK {
			if again, e := Plain(p); e != api.OK || !Equal(again, p) {
				t.Fatalf("Plain of Plain of %v: %v", f, again)
			}
		}
	}
}

// The examples of the chapter.
func TestExamples(t *testing.T) {
	a, b := sym("A"), sym("B")
	circle := lab("5", dot(a, ref("5")))
	n, e := Normal(circle)
	if e != api.OK || !Equal(n, lab("0", dot(a, ref("0")))) {
		t.Errorf("Normal of a circle: %v", n)
	}
	if _, e := Plain(circle); e != ErrCircle {
		t.Errorf("Plain of a circle: %v", e)
	}
	if n, _ := Normal(dot(a, lab("1", list(b)))); !Equal(n, list(a, b)) {
		t.Errorf("Normal of a list: %v", n)
	}
	if is, _ := Same(list(lab("1", list(a)), ref("1")), list(list(a), list(a))); is {
		t.Error("shared lists and lists that are not are the Same")
	}
}
