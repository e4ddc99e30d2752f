package pretty_test

import (
	"math/rand/v2"
	"slices"
	"strconv"
	"strings"
	"testing"
	"unicode/utf8"

	"commonform/api"
	"commonform/forms"
	"commonform/pretty"
	"commonform/printer"
	"commonform/reader"
)

const runs = 4000

func source(seed uint64) *rand.Rand { return rand.New(rand.NewPCG(seed, 9)) }

func pick(r *rand.Rand, l ...string) string { return l[r.IntN(len(l))] }

func text(s string) pretty.Op { return pretty.Op{Kind: pretty.Text, Text: s} }

func newline(n int) pretty.Op { return pretty.Op{Kind: pretty.Newline, N: n} }

func open(s string) pretty.Op { return pretty.Op{Kind: pretty.Open, Text: s} }

func lines(s string) pretty.Op { return pretty.Op{Kind: pretty.Open, Text: s, Flag: true} }

func end(s string) pretty.Op { return pretty.Op{Kind: pretty.Close, Text: s} }

func indent(n int) pretty.Op { return pretty.Op{Kind: pretty.Indent, N: n} }

func indentHere(n int) pretty.Op { return pretty.Op{Kind: pretty.Indent, N: n, Flag: true} }

func tab(n, m int) pretty.Op { return pretty.Op{Kind: pretty.Tab, N: n, M: m} }

func tabHere(n, m int) pretty.Op { return pretty.Op{Kind: pretty.Tab, N: n, M: m, Flag: true} }

// ops are given as operations, texts, and lists of them.
func ops(l ...any) []pretty.Op {
	var out []pretty.Op
	for _, x := range l {
		switch y := x.(type) {
		case string:
			out = append(out, text(y))
		case pretty.Op:
			out = append(out, y)
		case []pretty.Op:
			out = append(out, y...)
		}
	}
	return out
}

const (
	linear    = pretty.Linear
	fill      = pretty.Fill
	miser     = pretty.Miser
	mandatory = pretty.Mandatory
)

func nested(n int) []pretty.Op {
	return append(slices.Repeat([]pretty.Op{open("")}, n), slices.Repeat([]pretty.Op{end("")}, n)...)
}

func TestP9_1Check(t *testing.T) {
	wrong := pretty.Op{Kind: 6}
	for i, x := range []struct {
		l []pretty.Op
		e api.Errno
	}{
		{nil, api.OK}, {make([]pretty.Op, 4000), api.OK}, {slices.Repeat([]pretty.Op{wrong}, 4001), api.ErrSize}, {ops(wrong, strings.Repeat("a", 20001)), api.ErrSize}, {ops(strings.Repeat("a", 20000)), api.OK}, {ops(strings.Repeat("a", 10000), open(strings.Repeat("a", 10001))), api.ErrSize},
		{ops(wrong), api.ErrArg}, {ops(pretty.Op{Kind: -1}), api.ErrArg}, {ops(newline(4)), api.ErrArg}, {ops(newline(-1)), api.ErrArg}, {ops(newline(0), newline(1), newline(2), newline(3)), api.OK},
		{ops(indent(101)), api.ErrArg}, {ops(indentHere(-101)), api.ErrArg}, {ops(indent(100), indentHere(-100)), api.OK}, {ops(tab(-1, 0)), api.ErrArg}, {ops(tab(101, 0)), api.ErrArg}, {ops(tab(0, -1)), api.ErrArg}, {ops(tabHere(0, 101)), api.ErrArg}, {ops(tab(100, 100), tabHere(0, 0)), api.OK},
		{ops(pretty.Op{Kind: pretty.Text, N: 999, M: -7}), api.OK}, {ops(pretty.Op{Kind: pretty.Indent, M: 999}), api.OK}, {ops("\xff"), api.ErrForm}, {ops("a\nb"), api.OK}, {ops(open("a\nb")), api.ErrForm}, {ops(open(""), end("\n")), api.ErrForm}, {ops(pretty.Op{Kind: pretty.Newline, Text: "\xff"}), api.ErrForm}, {ops(pretty.Op{Kind: pretty.Tab, N: -1, Text: "\xff"}), api.ErrArg},
		{ops(end("")), pretty.ErrBlock}, {ops(open(""), end(""), end("")), pretty.ErrBlock}, {ops(open("")), pretty.ErrBlock}, {ops(open(""), wrong), api.ErrArg}, {ops(end(""), wrong), pretty.ErrBlock}, {ops(end("\n")), api.ErrForm}, {nested(100), api.OK}, {nested(101), pretty.ErrBlock}, {append(nested(101)[:101], wrong), pretty.ErrBlock}, {append(nested(100), nested(100)...), api.OK},
	} {
		if e := pretty.Check(x.l); e != x.e {
			t.Errorf("Check(%d) = %v, not %v", i, e, x.e)
		}
		flat, e := pretty.Flat(x.l)
		if e != x.e || e != api.OK && flat != "" {
			t.Errorf("Flat(%d) = %.20q, %v, not %v", i, flat, e, x.e)
		}
		wide := api.Errno(api.ErrArg)
		if x.e != api.OK {
			wide = x.e
		}
		if s, e := pretty.Render(x.l, 0, 0); s != "" || e != wide {
			t.Errorf("Render(%d) = %.20q, %v, not %v", i, s, e, wide)
		}
	}
	for _, x := range []struct {
		width, miser int
		e            api.Errno
	}{{0, 0, api.ErrArg}, {201, 0, api.ErrArg}, {-1, 0, api.ErrArg}, {1, -1, api.ErrArg}, {1, 201, api.ErrArg}, {1, 0, api.OK}, {200, 200, api.OK}} {
		if s, e := pretty.Render(ops("a"), x.width, x.miser); e != x.e || (s == "a") != (e == api.OK) {
			t.Errorf("Render(%d, %d) = %q, %v", x.width, x.miser, s, e)
		}
	}
}

func TestP9_1Width(t *testing.T) {
	for s, want := range map[string]int{"": 0, "a": 1, "é漢": 2, "a\nbcd\ne": 3, "\n\n": 0, "\xff\xfe\na": 2, "abc\n": 3, "\nab": 2} {
		if got := pretty.Width(s); got != want {
			t.Errorf("Width(%q) = %d, not %d", s, got, want)
		}
	}
}

func TestP9_1Tabs(t *testing.T) {
	for _, x := range []struct {
		ahead string
		op    pretty.Op
		want  int
	}{
		{"", tab(0, 0), 0}, {"", tab(5, 0), 5}, {"ab", tab(5, 0), 3}, {"abcde", tab(5, 0), 0}, {"abcdef", tab(5, 0), 0}, {"abcde", tab(5, 4), 4}, {"abcdef", tab(5, 4), 3}, {"abcdefghi", tab(5, 4), 4}, {"", tab(0, 8), 8}, {"abc", tab(0, 1), 1}, {"é", tab(3, 0), 2}, {"ab\nc", tab(3, 0), 2},
		{"ab", tabHere(3, 0), 3}, {"ab", tabHere(0, 0), 0}, {"ab", tabHere(1, 8), 6}, {"ab", tabHere(6, 8), 6}, {"ab", tabHere(7, 8), 14}, {"", tabHere(0, 8), 0}, {"abc", tabHere(0, 3), 0}, {"abcd", tabHere(0, 3), 2},
	} {
		want := x.ahead + strings.Repeat(" ", x.want) + "|"
		if got, e := pretty.Flat(ops(x.ahead, x.op, "|")); got != want || e != api.OK {
			t.Errorf("%v behind %q: %q, %v", x.op, x.ahead, got, e)
		}
		if got, e := pretty.Render(ops(x.ahead, x.op, "|"), 80, 0); got != want || e != api.OK {
			t.Errorf("%v behind %q: %q, %v", x.op, x.ahead, got, e)
		}
	}
}

// row is a block of four parts, with a newline of a kind ahead of each one but the first one.
func row(kind int) []pretty.Op {
	return ops(open("("), "aa ", newline(kind), "bb ", newline(kind), "cc ", newline(kind), "dd", end(")"))
}

func TestP9_1Render(t *testing.T) {
	for i, x := range []struct {
		l            []pretty.Op
		width, miser int
		want         string
	}{
		{row(linear), 13, 0, "(aa bb cc dd)"}, {row(linear), 12, 0, "(aa\n bb\n cc\n dd)"}, {row(fill), 12, 0, "(aa bb cc\n dd)"}, {row(fill), 7, 0, "(aa bb\n cc dd)"}, {row(fill), 6, 0, "(aa\n bb\n cc\n dd)"}, {row(fill), 12, 11, "(aa\n bb\n cc\n dd)"}, {row(fill), 12, 10, "(aa bb cc\n dd)"}, {row(fill), 13, 13, "(aa bb cc dd)"},
		{row(miser), 12, 11, "(aa\n bb\n cc\n dd)"}, {row(miser), 12, 10, "(aa bb cc dd)"}, {row(miser), 13, 13, "(aa bb cc dd)"}, {row(mandatory), 99, 0, "(aa\n bb\n cc\n dd)"},
		// the outermost block is long if all operations together do not fit
		{ops("aa ", newline(linear), "bb ", newline(linear), "cc"), 8, 0, "aa bb cc"}, {ops("aa ", newline(linear), "bb ", newline(linear), "cc"), 7, 0, "aa\nbb\ncc"}, {ops("aa ", newline(linear), "bb ", newline(mandatory), "cc"), 99, 0, "aa\nbb\ncc"}, {ops("aa ", newline(miser), "bbbb"), 5, 5, "aa\nbbbb"}, {ops("aa ", newline(miser), "bbbb"), 5, 4, "aa bbbb"},
		// a block is long by the section in which it stands, up to the newline behind it
		{ops(open("("), "aa ", newline(linear), open("["), "b ", newline(linear), "c", end("]"), " ", newline(linear), "dddddd", end(")")), 9, 0, "(aa\n [b c]\n dddddd)"}, {ops(open("("), open("["), "b ", newline(linear), "c", end("]"), "ee ", newline(linear), "d", end(")")), 8, 0, "([b\n  c]ee\n d)"}, {ops(open("("), open("["), "b ", newline(linear), "c", end("]"), "e", newline(linear), "d", end(")")), 7, 0, "([b c]e\n d)"},
		{ops(open("("), "a ", newline(fill), open("["), "b ", newline(mandatory), "c", end("]"), " ", newline(fill), "d", end(")")), 99, 0, "(a\n [b\n  c]\n d)"}, {ops(open("("), "a\nb ", newline(fill), "d", end(")")), 99, 0, "(a\nb\n d)"}, {ops(open("("), "a ", newline(fill), "d\ne", newline(linear), "f", end(")")), 99, 0, "(a\n d\ne\n f)"},
		// indentation
		{ops(open("("), "a ", indent(2), newline(mandatory), "b ", indent(-9), newline(mandatory), "c", end(")")), 99, 0, "(a\n   b\nc)"}, {ops(open("("), "aaa ", indentHere(0), "b ", newline(mandatory), "c", end(")")), 99, 0, "(aaa b\n     c)"}, {ops(open("("), "aaa ", indentHere(-1), "b ", newline(mandatory), "c", end(")")), 99, 0, "(aaa b\n    c)"}, {ops(open("("), "aaa ", indentHere(5), "b ", newline(mandatory), "c", end(")")), 10, 9, "(aaa b\n c)"}, {ops(open("("), "aaa ", indent(1), "b ", newline(mandatory), "c", end(")")), 10, 8, "(aaa b\n  c)"}, {ops("aaa ", indent(2), newline(mandatory), "b", indentHere(-100), newline(mandatory), "c"), 10, 0, "aaa\n  b\nc"}, {ops("a", indent(5), newline(mandatory), "b"), 10, 10, "a\nb"},
		// prefixes of each line
		{ops(lines("; "), "a", newline(mandatory), newline(mandatory), "b", end("")), 99, 0, "; a\n;\n; b"}, {ops("x ", lines("> "), "a ", open("("), "b ", newline(mandatory), lines("| "), "c", newline(mandatory), "d", end("!"), newline(mandatory), "e", end(")"), newline(mandatory), "f", end(".")), 99, 0, "x > a (b\n  >    | c\n  >    | d!\n  >    e)\n  > f."}, {ops(lines("; "), "a", indent(-2), newline(mandatory), "b", end("")), 99, 0, "; a\n; b"}, {ops(lines("; "), "a\nb", lines("-"), "c", newline(mandatory), "d", end(""), end("")), 99, 0, "; a\nb-c\n; -d"}, {ops(lines(""), "a", newline(mandatory), "b", end("")), 99, 0, "a\nb"},
		// an empty prefix of each line has its column, too
		{ops("ab", lines(""), indent(-2), "c", newline(mandatory), "d", end("")), 10, 0, "abc\n  d"}, {ops(open(" "), lines(""), open(""), "\n", open(""), newline(linear), end(""), end(""), end(""), end("")), 1, 0, " \n\n "}, {ops("ab", open(""), indent(-2), "c", newline(mandatory), "d", end("")), 10, 0, "abc\nd"},
		{ops("ab", lines(""), open("("), indent(-9), "c", newline(mandatory), "d", end(")"), newline(mandatory), "e", end(""), newline(mandatory), "f"), 10, 0, "ab(c\n  d)\n  e\nf"}, {ops("a", lines(""), "b", lines("; "), "c", indent(-9), newline(mandatory), "d", end(""), end("")), 10, 0, "ab; c\n  ; d"}, {ops("a", lines("; "), "b", lines(""), "c", indent(-9), newline(mandatory), "d", end(""), end("")), 10, 0, "a; bc\n ;  d"}, {ops("abcd\n", lines(""), "e", lines(""), indent(-9), newline(mandatory), "f", end(""), end("")), 10, 0, "abcd\ne\n f"},
		{ops("ab", lines(""), indent(-2), "c", newline(mandatory), newline(mandatory), "d", end("")), 10, 0, "abc\n\n  d"}, {ops("ab", lines(""), indent(-2), "cc ", newline(fill), "dd ", newline(fill), "ee", end("")), 7, 0, "abcc\n  dd ee"}, {ops("ab", lines(""), indent(1), "c", newline(mandatory), "d", end("")), 10, 0, "abc\n   d"}, {ops("é漢", lines(""), indent(-2), newline(mandatory), "d", end("")), 10, 0, "é漢\n  d"},
		// spaces at the ends of lines
		{ops("a  ", newline(mandatory), "  ", newline(mandatory), "b  "), 99, 0, "a\n\nb  "}, {ops("a", tab(9, 0), newline(mandatory), "b", tabHere(2, 0)), 99, 0, "a\nb  "}, {ops("a \n b ", newline(mandatory), "c"), 99, 0, "a \n b\nc"}, {ops("a\t", newline(mandatory), "c"), 99, 0, "a\t\nc"},
		{ops("a\n", newline(mandatory), "b"), 99, 0, "a\n\nb"}, {nil, 9, 0, ""}, {ops(newline(linear), newline(fill), newline(miser)), 1, 200, ""},
		// tabs count in sections
		{ops("a", newline(linear), tab(5, 0), "b"), 6, 0, "a     b"[:5] + "b"}, {ops("a", newline(linear), tab(5, 0), "b"), 5, 0, "a\n     b"}, {ops("é", newline(linear), "é"), 2, 0, "éé"},
	} {
		if got, e := pretty.Render(x.l, x.width, x.miser); got != x.want || e != api.OK {
			t.Errorf("%d: Render(%v, %d, %d) = %q, %v, not %q", i, x.l, x.width, x.miser, got, e, x.want)
		}
	}
}

func TestP9_1Large(t *testing.T) {
	tabs := slices.Repeat([]pretty.Op{tabHere(100, 0)}, 1000)
	prefix := ops(lines(strings.Repeat("x", 10000)), slices.Repeat([]pretty.Op{newline(mandatory)}, 3990), end(""))
	exact := ops(lines(strings.Repeat("x", 9999)), slices.Repeat([]pretty.Op{newline(mandatory)}, 9), "a")
	indents := slices.Repeat(ops(indentHere(100), newline(mandatory)), 1999)
	for i, x := range []struct {
		l            []pretty.Op
		flat, render api.Errno
		length       int
	}{
		{tabs, api.OK, api.OK, 100000}, {ops(tabs, " "), api.ErrLarge, api.ErrLarge, 0}, {ops(tabs, tabs, tabs, "a"), api.ErrLarge, api.ErrLarge, 0}, {ops(tabs, tabs, newline(mandatory), "a"), api.ErrLarge, api.OK, 2}, {ops(tabs, tabs[:900], newline(mandatory), tabs, tabs[:900], newline(mandatory), "a"), api.ErrLarge, api.OK, 3},
		{prefix, api.OK, api.ErrLarge, 0}, {ops(exact, end("")), api.OK, api.OK, 100000}, {ops(exact, "b", end("")), api.OK, api.ErrLarge, 0}, {ops(exact, tab(0, 1), end("")), api.OK, api.ErrLarge, 0}, {ops(exact, tab(0, 1), newline(mandatory), end("")), api.OK, api.ErrLarge, 0}, {indents, api.OK, api.ErrLarge, 0}, {ops(indents[:500], newline(mandatory)), api.OK, api.OK, 251 + 25000}, {ops("a", tabs), api.ErrLarge, api.ErrLarge, 0},
	} {
		if s, e := pretty.Flat(x.l); e != x.flat || e != api.OK && s != "" {
			t.Errorf("%d: Flat has %d bytes, %v, not %v", i, len(s), e, x.flat)
		}
		if s, e := pretty.Render(x.l, 200, 0); e != x.render || len(s) != x.length {
			t.Errorf("%d: Render has %d bytes, %v, not %d, %v", i, len(s), e, x.length, x.render)
		}
	}
}

// slow renders operations as the description says it: with strings, and the section of each place by its definition.
type slow struct {
	l            []pretty.Op
	width, miser int
	parent       []int // of each operation: the Open of the block in which it stands, -1 for none
	close        map[int]int
	out          string
}

func newSlow(l []pretty.Op, width, miser int) *slow {
	s := &slow{l: l, width: width, miser: miser, close: map[int]int{-1: len(l)}}
	stack := []int{-1}
	for i, x := range l {
		if x.Kind == pretty.Close {
			s.close[stack[len(stack)-1]] = i
			stack = stack[:len(stack)-1]
		}
		s.parent = append(s.parent, stack[len(stack)-1])
		if x.Kind == pretty.Open {
			stack = append(stack, i)
		}
	}
	return s
}

func (s *slow) column() int {
	return utf8.RuneCountInString(s.out[strings.LastIndexByte(s.out, '\n')+1:])
}

func (s *slow) spaces(x pretty.Op, column int) int {
	to := column
	switch {
	case x.Flag && x.M == 0:
		to += x.N
	case x.Flag:
		for to = column + x.N; to%x.M != 0; to++ {
		}
	case column < x.N:
		to = x.N
	case x.M > 0:
		for to = x.N; to <= column; to += x.M {
		}
	}
	return to - column
}

// end returns where the stretch of the section ends that begins at i in a block.
func (s *slow) end(i, block int) int {
	for ; i < s.close[block]; i++ {
		if s.l[i].Kind == pretty.Newline && s.parent[i] == block {
			return i
		}
	}
	if block < 0 {
		return i
	}
	return s.end(i+1, s.parent[block])
}

func (s *slow) fits(from, to, column int) bool {
	for _, x := range s.l[from:to] {
		switch x.Kind {
		case pretty.Text, pretty.Open, pretty.Close:
			if strings.Contains(x.Text, "\n") {
				return false
			}
			column += utf8.RuneCountInString(x.Text)
		case pretty.Tab:
			column += s.spaces(x, column)
		case pretty.Newline:
			if x.N == pretty.Mandatory {
				return false
			}
		}
	}
	return column <= s.width
}

type slowBlock struct {
	start, indentation, at int
	isLong, isMiser        bool
	section, column        int
	lines                  int // line feeds ahead of the section
}

func (s *slow) render() string {
	blocks := map[int]*slowBlock{-1: {isLong: !s.fits(0, len(s.l), 0), isMiser: s.width <= s.miser}}
	for i, x := range s.l {
		parent := s.parent[i]
		b := blocks[parent]
		switch x.Kind {
		case pretty.Text, pretty.Close:
			s.out += x.Text
		case pretty.Open:
			n := &slowBlock{at: s.column(), isLong: !s.fits(b.section, s.end(b.section, parent), b.column)}
			s.out += x.Text
			n.start = s.column()
			n.indentation, n.isMiser = n.start, s.width-n.start <= s.miser
			n.section, n.column, n.lines = i+1, n.start, strings.Count(s.out, "\n")
			blocks[i] = n
		case pretty.Indent:
			if !b.isMiser {
				b.indentation = b.start + x.N
				if x.Flag {
					b.indentation = s.column() + x.N
				}
				b.indentation = max(b.indentation, 0)
			}
		case pretty.Tab:
			s.out += strings.Repeat(" ", s.spaces(x, s.column()))
		case pretty.Newline:
			isBroken := x.N == pretty.Mandatory
			isBroken = isBroken || x.N == pretty.Linear && b.isLong
			isBroken = isBroken || (x.N == pretty.Miser || x.N == pretty.Fill) && b.isLong && b.isMiser
			isBroken = isBroken || x.N == pretty.Fill && !s.fits(i+1, s.end(i+1, parent), s.column())
			isBroken = isBroken || x.N == pretty.Fill && strings.Count(s.out, "\n") > b.lines
			if isBroken {
				s.feed(parent, blocks)
			}
			b.section, b.column, b.lines = i+1, s.column(), strings.Count(s.out, "\n")
		}
	}
	return s.out
}

func (s *slow) feed(block int, blocks map[int]*slowBlock) {
	s.out = strings.TrimRight(s.out, " ") + "\n"
	var path []int
	for i := block; i >= 0; i = s.parent[i] {
		path = append(path, i)
	}
	slices.Reverse(path)
	for _, i := range path {
		if x := s.l[i]; x.Flag {
			s.out += strings.Repeat(" ", max(0, blocks[i].at-s.column())) + x.Text
		}
	}
	s.out += strings.Repeat(" ", max(0, blocks[block].indentation-s.column()))
}

// randomOps returns operations; kinds are those of newlines.
func randomOps(r *rand.Rand, depth int, isPlain bool, kinds ...int) []pretty.Op {
	var out []pretty.Op
	for range r.IntN(7) {
		switch n := r.IntN(12); {
		case n < 4:
			out = append(out, text(pick(r, "a", "bb", "ccc ", " ", "é", "dddddd", "")))
		case n < 7 && len(kinds) > 0:
			out = append(out, newline(kinds[r.IntN(len(kinds))]))
		case n < 9 && depth > 0:
			out = append(out, pretty.Op{Kind: pretty.Open, Text: pick(r, "(", "[[", "", "; ", "é"), Flag: !isPlain && r.IntN(3) == 0})
			out = append(out, randomOps(r, depth-1, isPlain, kinds...)...)
			out = append(out, end(pick(r, ")", "", "]] ")))
		case n == 9:
			out = append(out, pretty.Op{Kind: pretty.Indent, N: r.IntN(9) - 4, Flag: r.IntN(2) == 0})
		case n == 10:
			out = append(out, pretty.Op{Kind: pretty.Tab, N: r.IntN(9), M: r.IntN(5), Flag: r.IntN(2) == 0})
		case n == 11 && !isPlain && r.IntN(5) == 0:
			out = append(out, text(pick(r, "x\ny", "\n", "z \n ")))
		}
	}
	return out
}

func TestP9_1Descriptions(t *testing.T) {
	r := source(1)
	for range 20 * runs {
		l := randomOps(r, 3, false, linear, fill, miser, mandatory, linear, fill, fill)
		width, miser := 1+r.IntN(24), r.IntN(20)
		want := newSlow(l, width, miser).render()
		if got, e := pretty.Render(l, width, miser); got != want || e != api.OK {
			t.Fatalf("Render(%v, %d, %d) = %q, %v, not %q", l, width, miser, got, e, want)
		}
	}
}

func TestP9_2Flat(t *testing.T) {
	r := source(2)
	for range 3 * runs {
		l := randomOps(r, 3, true, linear, fill, miser)
		flat, e := pretty.Flat(l)
		if e != api.OK {
			t.Fatal(e)
		}
		if n := pretty.Width(flat); n > 0 {
			if got, e := pretty.Render(l, n, r.IntN(200)); got != flat || e != api.OK {
				t.Fatalf("Render(%v, %d) = %q, %v, not %q", l, n, got, e, flat)
			}
		}
		l = randomOps(r, 3, false)
		flat, _ = pretty.Flat(l)
		if got, e := pretty.Render(l, 1+r.IntN(9), r.IntN(9)); got != flat || e != api.OK {
			t.Fatalf("Render(%v) = %q, %v, not %q", l, got, e, flat)
		}
	}
	l := ops("a", newline(mandatory), "b", newline(linear))
	if s, e := pretty.Flat(l); s != "ab" || e != api.OK {
		t.Errorf("Flat = %q, %v", s, e)
	}
}

func inked(s string) string { return strings.NewReplacer("\n", "", " ", "").Replace(s) }

func TestP9_3Words(t *testing.T) {
	r := source(3)
	for range 3 * runs {
		l := randomOps(r, 3, true, linear, fill, miser, mandatory)
		flat, _ := pretty.Flat(l)
		if s, e := pretty.Render(l, 1+r.IntN(12), r.IntN(12)); inked(s) != inked(flat) || e != api.OK {
			t.Fatalf("Render(%v) = %q, %v, not %q", l, s, e, flat)
		}
	}
}

// block returns a block of parts with newlines of a kind, and whether each of these broke the line in a text.
func block(r *rand.Rand, kind int) ([]pretty.Op, func(s string) []bool) {
	l := ops(pick(r, "", "xx"), open(pick(r, "(", "")), "0")
	count := 1 + r.IntN(5)
	for i := range count {
		l = append(l, ops(" ", newline(kind), strconv.Itoa(i+1))...)
	}
	l = append(l, ops(end(pick(r, ")", "")), pick(r, "", "yy"))...)
	return l, func(s string) []bool {
		var out []bool
		for i := range count {
			from := strings.Index(s, strconv.Itoa(i))
			out = append(out, strings.Contains(s[from:strings.Index(s, strconv.Itoa(i+1))], "\n"))
		}
		return out
	}
}

func TestP9_4Blocks(t *testing.T) {
	r := source(4)
	for range runs {
		width, miser := 1+r.IntN(14), r.IntN(14)
		l, broken := block(r, linear)
		s, _ := pretty.Render(l, width, miser)
		if b := broken(s); slices.Contains(b, true) && slices.Contains(b, false) {
			t.Fatalf("Render(%v, %d) = %q", l, width, s)
		}
		l, broken = block(r, mandatory)
		s, _ = pretty.Render(l, width, miser)
		if slices.Contains(broken(s), false) {
			t.Fatalf("Render(%v, %d) = %q", l, width, s)
		}
		l, broken = block(r, pretty.Miser)
		s, _ = pretty.Render(l, width, miser)
		start := len(l[0].Text) + len(l[1].Text)
		if slices.Contains(broken(s), true) && width-start > miser {
			t.Fatalf("Render(%v, %d, %d) = %q", l, width, miser, s)
		}
	}
}

func TestP9_5Ends(t *testing.T) {
	r := source(5)
	for range 3 * runs {
		l := slices.DeleteFunc(randomOps(r, 3, false, linear, fill, miser, mandatory), func(x pretty.Op) bool { return strings.Contains(x.Text, "\n") })
		s, e := pretty.Render(l, 1+r.IntN(12), r.IntN(12))
		if e != api.OK || strings.Contains(s, " \n") {
			t.Fatalf("Render(%v) = %q, %v", l, s, e)
		}
	}
}

func user(s string) api.Form { return forms.Symbol("P", s) }

func lisp(s string) api.Form { return forms.Symbol("COMMON-LISP", s) }

func list(l ...api.Form) api.Form { return forms.List(l) }

func usual() printer.Options {
	o := printer.Standard("P")
	o.Uses = []string{"COMMON-LISP"}
	return o
}

func with(change func(o *printer.Options)) printer.Options {
	o := usual()
	change(&o)
	return o
}

func TestP9_1Layout(t *testing.T) {
	a, b, c, d := user("A"), user("B"), user("C"), user("D")
	one := api.Form{Kind: api.FormInt, Text: "1"}
	vector := func(l ...api.Form) api.Form { return api.Form{Kind: api.FormVector, Kids: l} }
	array := func(text string, l ...api.Form) api.Form {
		return api.Form{Kind: api.FormArray, Text: text, Kids: l}
	}
	mark := func(name string, f api.Form) api.Form { return list(forms.Symbol("READER", name), f) }
	shared := api.Form{Kind: api.FormLabel, Text: "3", Kids: []api.Form{list(one)}}
	ref := api.Form{Kind: api.FormRef, Text: "3"}
	circle := with(func(o *printer.Options) { o.Circle = true })
	limit := func(length, level int) printer.Options {
		return with(func(o *printer.Options) { o.Length, o.Level = length, level })
	}
	space, f := text(" "), newline(fill)
	body := ops(space, indent(1), newline(linear))
	call := ops(space, indentHere(0))
	rest := ops(space, newline(linear))
	styles := []pretty.Style{{Name: "TWO", Args: 2}, {Name: "NONE", Args: 0}, {Name: "ONE", Args: 1}, {Name: "TWO", Args: 0}}
	for _, x := range []struct {
		o    printer.Options
		f    api.Form
		want []pretty.Op
	}{
		{usual(), a, ops("a")}, {usual(), one, ops("1")}, {usual(), forms.Nil(), ops("nil")}, {usual(), api.Form{Kind: api.FormBits, Text: "01"}, ops("#*01")}, {usual(), api.Form{Kind: api.FormString, Text: "x\ny"}, ops("\"x\ny\"")}, {usual(), api.Form{Kind: api.FormChar, Text: " "}, ops("#\\Space")},
		{usual(), list(a), ops(open("("), "a", end(")"))}, {usual(), list(a, b, c), ops(open("("), "a", call, "b", rest, "c", end(")"))}, {usual(), list(one, b, c), ops(open("("), "1", space, f, "b", space, f, "c", end(")"))}, {usual(), list(list(a), b), ops(open("("), open("("), "a", end(")"), space, f, "b", end(")"))},
		{usual(), forms.Dotted([]api.Form{a}, b), ops(open("("), "a", call, ". ", "b", end(")"))}, {usual(), forms.Dotted([]api.Form{one, b}, c), ops(open("("), "1", space, f, "b", space, f, ". ", "c", end(")"))}, {usual(), forms.Dotted([]api.Form{a, b}, vector(c)), ops(open("("), "a", call, "b", rest, ". ", open("#("), "c", end(")"), end(")"))},
		{usual(), vector(), ops(open("#("), end(")"))}, {usual(), vector(a, b, c), ops(open("#("), "a", space, f, "b", space, f, "c", end(")"))}, {usual(), array("", list(a)), ops("#0A", open("("), "a", end(")"))}, {usual(), array("2 2", a, b, c, d), ops(open("#2A("), open("("), "a", space, f, "b", end(")"), space, f, open("("), "c", space, f, "d", end(")"), end(")"))}, {usual(), array("2 0"), ops(open("#2A("), open("("), end(")"), space, f, open("("), end(")"), end(")"))}, {usual(), array("0 2"), ops(open("#2A("), end(")"))},
		{usual(), list(lisp("TWO"), a), ops(open("("), "two", space, indent(3), "a", end(")"))}, {usual(), list(lisp("TWO"), a, b, c, d), ops(open("("), "two", space, indent(3), "a", space, f, "b", body, "c", body, "d", end(")"))}, {usual(), list(lisp("ONE"), a, b, c), ops(open("("), "one", space, indent(3), "a", body, "b", body, "c", end(")"))}, {usual(), list(lisp("NONE"), a, b), ops(open("("), "none", space, indent(3), indent(1), newline(linear), "a", body, "b", end(")"))}, {usual(), list(lisp("NONE")), ops(open("("), "none", end(")"))},
		{usual(), list(user("TWO"), a, b), ops(open("("), "two", call, "a", rest, "b", end(")"))}, {usual(), list(lisp("OTHER"), a, b), ops(open("("), "other", call, "a", rest, "b", end(")"))}, {usual(), forms.Dotted([]api.Form{lisp("ONE"), a}, b), ops(open("("), "one", space, indent(3), "a", body, ". ", "b", end(")"))}, {usual(), forms.Dotted([]api.Form{lisp("TWO"), a}, b), ops(open("("), "two", space, indent(3), "a", space, f, ". ", "b", end(")"))}, {usual(), forms.Dotted([]api.Form{lisp("ONE")}, b), ops(open("("), "one", space, indent(3), ". ", "b", end(")"))},
		{usual(), list(lisp("QUOTE"), list(a)), ops("'", open("("), "a", end(")"))}, {with(func(o *printer.Options) { o.Abbrev = false }), list(lisp("QUOTE"), a), ops(open("("), "quote", call, "a", end(")"))}, {usual(), mark("BACKQUOTE", list(mark("COMMA", a), mark("SPLICE", b))), ops("`", open("("), ",", "a", space, f, ",@", "b", end(")"))}, {usual(), mark("BACKQUOTE", mark("COMMA", user("@B"))), ops("`", ", ", "@b")}, {usual(), mark("COMMA", a), ops(open("("), "reader::comma", call, "a", end(")"))},
		{circle, list(a, shared, ref), ops(open("("), "a", call, "#0=", open("("), "1", end(")"), rest, "#0#", end(")"))}, {usual(), list(one, shared, ref), ops(open("("), "1", space, f, open("("), "1", end(")"), space, f, open("("), "1", end(")"), end(")"))}, {circle, forms.Dotted([]api.Form{shared}, ref), ops(open("("), "#0=", open("("), "1", end(")"), space, f, ". ", "#0#", end(")"))}, {circle, list(shared, array("1 2", ref, a)), ops(open("("), "#0=", open("("), "1", end(")"), space, f, open("#2A("), open("("), "#0#", space, f, "a", end(")"), end(")"), end(")"))},
		{limit(-1, 0), list(a), ops("#")}, {limit(-1, 0), vector(a), ops("#")}, {limit(-1, 0), array("2 0"), ops("#2A#")}, {limit(-1, 1), array("2 0"), ops(open("#2A("), "#", space, f, "#", end(")"))}, {limit(-1, 0), array("", a), ops("#0A", "a")}, {limit(-1, 1), list(a, vector(b)), ops(open("("), "a", call, "#", end(")"))},
		{limit(0, -1), list(a, b), ops(open("("), "...", end(")"))}, {limit(1, -1), list(a, b), ops(open("("), "a", call, "...", end(")"))}, {limit(2, -1), list(lisp("ONE"), a, b, c), ops(open("("), "one", space, indent(3), "a", body, "...", end(")"))}, {limit(1, -1), vector(a, b), ops(open("#("), "a", space, f, "...", end(")"))}, {limit(1, -1), array("2 1", a, b), ops(open("#2A("), open("("), "a", end(")"), space, f, "...", end(")"))}, {limit(1, -1), forms.Dotted([]api.Form{a, b}, c), ops(open("("), "a", call, "...", end(")"))}, {limit(1, -1), forms.Dotted([]api.Form{a}, c), ops(open("("), "a", call, ". ", "c", end(")"))},
		{with(func(o *printer.Options) { o.Array = false }), list(one, vector(a), array("2 0"), api.Form{Kind: api.FormBits}), ops(open("("), "1", space, f, "#<VECTOR>", space, f, "#<ARRAY>", space, f, "#<BIT-VECTOR>", end(")"))}, {with(func(o *printer.Options) { o.Escape = false }), list(lisp("ONE"), api.Form{Kind: api.FormString, Text: "x"}), ops(open("("), "one", space, indent(3), "x", end(")"))},
	} {
		got, e := pretty.Layout(x.o, styles, x.f)
		if e != api.OK || !slices.Equal(got, x.want) {
			t.Errorf("Layout(%v) = %v, %v, not %v", x.f, got, e, x.want)
		}
		flat, _ := pretty.Flat(got)
		if want, _ := printer.Print(x.o, x.f); flat != want {
			t.Errorf("Layout(%v) is %q, not %q", x.f, flat, want)
		}
	}
}

func TestP9_1Styles(t *testing.T) {
	want := "DEFUN 2, DEFMACRO 2, LAMBDA 1, LET 1, LET* 1, FLET 1, LABELS 1, MACROLET 1, SYMBOL-MACROLET 1, WHEN 1, UNLESS 1, DOLIST 1, DOTIMES 1, BLOCK 1, CATCH 1, EVAL-WHEN 1, HANDLER-BIND 1, PROGN 0, UNWIND-PROTECT 1, MULTIPLE-VALUE-BIND 2, DESTRUCTURING-BIND 2, DEFCLASS 2, CASE 1, COND 0, IF 1"
	var got []string
	for _, x := range pretty.Styles() {
		got = append(got, x.Name+" "+strconv.Itoa(x.Args))
	}
	if s := strings.Join(got, ", "); s != want {
		t.Errorf("Styles = %s", s)
	}
	pretty.Styles()[0].Name = "CHANGED"
	if pretty.Styles()[0].Name != "DEFUN" {
		t.Error("Styles shares memory")
	}
}

func TestP9_1LayoutErrors(t *testing.T) {
	wide := make([]pretty.Style, 101)
	bad := api.Form{}
	ones := func(n int) []api.Form {
		return slices.Repeat([]api.Form{{Kind: api.FormInt, Text: "1"}}, n)
	}
	deep := user("A")
	for range 98 {
		deep = api.Form{Kind: api.FormVector, Kids: []api.Form{deep}}
	}
	tower := api.Form{Kind: api.FormArray, Text: "1 1 1 1 1 1 1", Kids: []api.Form{deep}}
	for i, x := range []struct {
		o      printer.Options
		styles []pretty.Style
		f      api.Form
		e      api.Errno
	}{
		{printer.Options{}, wide, bad, api.ErrArg}, {usual(), wide, bad, api.ErrSize}, {usual(), []pretty.Style{{}, {Args: 11}}, bad, api.ErrArg}, {usual(), []pretty.Style{{}, {Args: -1}}, bad, api.ErrArg}, {usual(), wide[1:], bad, api.ErrForm}, {usual(), []pretty.Style{{Args: 10}}, user("A"), api.OK},
		{usual(), nil, list(api.Form{Kind: api.FormSingle, Text: "7fc00000"}), api.ErrForm}, {usual(), nil, api.Form{Kind: api.FormString, Text: strings.Repeat("a", 20000)}, api.ErrSize}, {usual(), nil, forms.List(ones(1334)), api.ErrSize}, {usual(), nil, forms.List(ones(1333)), api.OK}, {usual(), nil, tower, pretty.ErrBlock}, {usual(), nil, deep, api.OK},
	} {
		l, e := pretty.Layout(x.o, x.styles, x.f)
		if e != x.e || (len(l) == 0) != (e != api.OK) {
			t.Errorf("%d: Layout: %v, not %v", i, e, x.e)
		}
	}
	for i, x := range []struct {
		o            printer.Options
		f            api.Form
		width, miser int
		e            api.Errno
	}{{printer.Options{}, bad, 0, -1, api.ErrArg}, {usual(), bad, 0, -1, api.ErrForm}, {usual(), tower, 0, -1, pretty.ErrBlock}, {usual(), user("A"), 0, 0, api.ErrArg}, {usual(), user("A"), 201, 0, api.ErrArg}, {usual(), user("A"), 9, 201, api.ErrArg}, {usual(), user("A"), 9, 9, api.OK}} {
		if s, e := pretty.Print(x.o, x.f, x.width, x.miser); e != x.e || (s == "") != (e != api.OK) {
			t.Errorf("%d: Print = %q, %v, not %v", i, s, e, x.e)
		}
	}
}

func TestP9_1Print(t *testing.T) {
	a, b, c := user("ALPHA"), user("BETA"), user("GAMMA")
	cond := list(lisp("COND"), list(a, b), list(lisp("T"), c))
	let := list(lisp("LET"), list(list(a, b), list(b, c)), list(lisp("SETQ"), a, b), c)
	for _, x := range []struct {
		f            api.Form
		width, miser int
		want         string
	}{
		{list(a, b, c), 18, 0, "(alpha beta gamma)"}, {list(a, b, c), 17, 0, "(alpha beta\n       gamma)"}, {list(a, b, c), 17, 16, "(alpha beta\n gamma)"}, {cond, 28, 0, "(cond\n  (alpha beta)\n  (t gamma))"}, {let, 40, 0, "(let ((alpha beta) (beta gamma))\n  (setq alpha beta)\n  gamma)"}, {let, 20, 0, "(let ((alpha beta)\n      (beta gamma))\n  (setq alpha beta)\n  gamma)"},
		{list(lisp("DEFUN"), a, list(b), list(lisp("IF"), a, b, c)), 20, 0, "(defun alpha (beta)\n  (if alpha\n    beta\n    gamma))"}, {list(lisp("IF"), list(a, b), b), 99, 0, "(if (alpha beta) beta)"}, {api.Form{Kind: api.FormVector, Kids: []api.Form{a, b, c}}, 15, 0, "#(alpha beta\n  gamma)"},
	} {
		if got, e := pretty.Print(usual(), x.f, x.width, x.miser); got != x.want || e != api.OK {
			t.Errorf("Print(%d, %d) = %q, %v, not %q", x.width, x.miser, got, e, x.want)
		}
	}
}

// randomForm returns a right form.
func randomForm(r *rand.Rand, depth int, labels *int) api.Form {
	if depth == 0 || r.IntN(4) == 0 {
		switch r.IntN(6) {
		case 0:
			return api.Form{Kind: api.FormString, Text: pick(r, "", "a b", "\"\\", "x \n y")}
		case 1:
			return api.Form{Kind: api.FormInt, Text: pick(r, "0", "-12", "123456789")}
		case 2:
			return api.Form{Kind: api.FormChar, Text: pick(r, " ", "a", "(")}
		case 3:
			if *labels > 0 {
				return api.Form{Kind: api.FormRef, Text: strconv.Itoa(r.IntN(*labels))}
			}
		}
		return forms.Symbol(pick(r, "P", "COMMON-LISP", "Q", ""), pick(r, "A", "LET", "DEFUN", "COND", "foo bar", "@X", "NIL"))
	}
	var l []api.Form
	for range 1 + r.IntN(5) {
		l = append(l, randomForm(r, depth-1, labels))
	}
	switch r.IntN(9) {
	case 0:
		return api.Form{Kind: api.FormVector, Kids: l}
	case 1:
		return api.Form{Kind: api.FormArray, Text: "1 " + strconv.Itoa(len(l)), Kids: l}
	case 2:
		return list(lisp("QUOTE"), l[0])
	case 3:
		return list(forms.Symbol("READER", pick(r, "BACKQUOTE", "BACKQUOTE", "COMMA", "SPLICE")), l[0])
	case 4:
		return forms.Dotted(l, randomForm(r, 0, labels))
	case 5:
		n := strconv.Itoa(*labels)
		*labels++
		return api.Form{Kind: api.FormLabel, Text: n, Kids: []api.Form{list(append(l, api.Form{Kind: api.FormRef, Text: n})...)}}
	case 6:
		return api.Form{Kind: api.FormArray, Kids: l[:1]}
	}
	return list(append([]api.Form{forms.Symbol(pick(r, "P", "COMMON-LISP"), pick(r, "LET", "DEFUN", "COND", "IF", "F"))}, l...)...)
}

func TestP9_6Forms(t *testing.T) {
	r := source(6)
	for range runs {
		labels := 0
		f := randomForm(r, 4, &labels)
		o := usual()
		o.Circle, o.Abbrev, o.Array = r.IntN(4) > 0, r.IntN(4) > 0, r.IntN(4) > 0
		if r.IntN(2) == 0 {
			o.Length, o.Level = r.IntN(6)-1, r.IntN(5)-1
		}
		o.Escape = r.IntN(4) > 0
		want, e := printer.Print(o, f)
		l, g := pretty.Layout(o, pretty.Styles(), f)
		if e != api.OK || g != api.OK {
			if e != api.OK && g != e {
				t.Fatalf("Layout(%v): %v, not %v", f, g, e)
			}
			continue
		}
		if flat, e := pretty.Flat(l); flat != want || e != api.OK {
			t.Fatalf("Layout is %q, %v, not %q", flat, e, want)
		}
		readable := printer.Readably(printer.Standard("P"))
		want, e = printer.Print(readable, f)
		if e != api.OK {
			continue
		}
		a, _, e := reader.One(reader.Standard("P"), want)
		s, g := pretty.Print(readable, f, 1+r.IntN(60), r.IntN(60))
		if e != api.OK || g != api.OK || len(s) > api.MaxSource {
			continue
		}
		b, at, e := reader.One(reader.Standard("P"), s)
		if e != api.OK || !forms.Equal(a.Form, b.Form) {
			t.Fatalf("%q is read as %v, %d, %v, not %v", s, b.Form, at, e, a.Form)
		}
	}
}

func TestP9_1AnyArguments(t *testing.T) {
	r := source(7)
	for range 3 * runs {
		var l []pretty.Op
		for range r.IntN(8) {
			l = append(l, pretty.Op{Kind: r.IntN(8) - 1, Text: pick(r, "", "a", "b ", "\n", "\xff"), N: r.IntN(240) - 120, M: r.IntN(240) - 120, Flag: r.IntN(2) == 0})
		}
		before := slices.Clone(l)
		if s, e := pretty.Render(l, r.IntN(210)-5, r.IntN(210)-5); e != api.OK && s != "" || !slices.Equal(l, before) {
			t.Fatal("a result with an error, or a changed argument")
		}
		if s, e := pretty.Flat(l); e != api.OK && s != "" {
			t.Fatal("a result with an error")
		}
	}
}
