package forms

import (
	"math/rand/v2"
	"slices"
	"strconv"
	"testing"

	"commonform/api"
)

func equalGraphs(a, b []Node) bool {
	return slices.EqualFunc(a, b, func(x, y Node) bool {
		return x.Kind == y.Kind && x.Text == y.Text && x.Home == y.Home && slices.Equal(x.Kids, y.Kids)
	})
}

func graph(f api.Form) []Node {
	g, e := Nodes(f)
	if e != api.OK {
		panic(e)
	}
	return g
}

func copied(g []Node) []Node {
	out := slices.Clone(g)
	for i, n := range out {
		out[i].Kids = slices.Clone(n.Kids)
	}
	return out
}

// randomGraphs returns right graphs, also such as no form of few labels has: their nodes are linked at random.
func randomGraphs(seed uint64, count, size int) [][]Node {
	r := rand.New(rand.NewPCG(1, seed))
	var out [][]Node
	for len(out) < count {
		n := 1 + r.IntN(size)
		loose := make([]Node, n)
		for i := range loose {
			switch r.IntN(8) {
			case 0:
				loose[i] = Node{Kind: api.FormString, Text: []string{"", "x"}[r.IntN(2)]}
			case 1:
				loose[i] = Node{Kind: api.FormVector, Kids: make([]int, r.IntN(3))}
			case 2:
				loose[i] = Node{Kind: api.FormArray, Text: "2 1", Kids: make([]int, 2)}
			case 3:
				loose[i] = Node{Kind: api.FormBits, Text: "1"}
			default:
				loose[i] = Node{Kind: api.FormCons, Kids: make([]int, 2)}
			}
			for k := range loose[i].Kids {
				loose[i].Kids[k] = r.IntN(n)
			}
		}
		// Some parts become symbols, numbers and characters.
		loose = append(loose, Node{Kind: api.FormSymbol, Text: "A", Home: "P"}, Node{Kind: api.FormSymbol, Text: "A"})
		for i := range n {
			for k := range loose[i].Kids {
				switch r.IntN(9) {
				case 0:
					loose[i].Kids[k] = n + r.IntN(2)
				case 1:
					loose[i].Kids[k] = len(loose)
					loose = append(loose, Node{Kind: api.FormInt, Text: strconv.Itoa(r.IntN(2))})
				case 2:
					loose[i].Kids[k] = len(loose)
					loose = append(loose, Node{Kind: api.FormChar, Text: "x"})
				case 3:
					at := len(loose)
					loose[i].Kids[k] = at
					loose = append(loose, Node{Kind: api.FormComplex, Kids: []int{at + 1, at + 2}}, Node{Kind: api.FormInt, Text: strconv.Itoa(r.IntN(2))}, Node{Kind: api.FormInt, Text: "1"})
				}
			}
		}
		out = append(out, part(loose, 0))
	}
	return out
}

func TestP1_1Nodes(t *testing.T) {
	a := sym("A")
	cons := func(car, cdr int) Node { return Node{Kind: api.FormCons, Kids: []int{car, cdr}} }
	named := Node{Kind: api.FormSymbol, Text: "A", Home: "P"}
	x, five := Node{Kind: api.FormString, Text: "x"}, Node{Kind: api.FormInt, Text: "5"}
	for i, c := range []struct {
		f    api.Form
		want []Node
	}{
		{lab("0", dot(a, ref("0"))), []Node{cons(1, 0), named}},
		{dot(str("x"), str("x"), num("5")), []Node{cons(1, 2), x, cons(3, 4), x, five}},
		{dot(lab("3", str("x")), ref("3"), num("5")), []Node{cons(1, 2), x, cons(1, 3), five}},
		{dot(a, a, a), []Node{cons(1, 2), named, cons(1, 1)}},
		{vec(lab("1", num("5")), ref("1")), []Node{{Kind: api.FormVector, Kids: []int{1, 2}}, five, five}},
		{vec(lab("1", a), ref("1")), []Node{{Kind: api.FormVector, Kids: []int{1, 1}}, named}},
		{vec(lab("1", node(api.FormComplex, "", num("5"), num("5"))), ref("1")), []Node{{Kind: api.FormVector, Kids: []int{1, 4}}, {Kind: api.FormComplex, Kids: []int{2, 3}}, five, five, {Kind: api.FormComplex, Kids: []int{5, 6}}, five, five}},
		{dot(a, lab("1", dot(a, ref("1")))), []Node{cons(1, 2), named, cons(1, 2)}},
		{num("5"), []Node{five}}, {lab("2", str("x")), []Node{x}}, {node(api.FormArray, "", a), []Node{{Kind: api.FormArray, Kids: []int{1}}, named}},
		{lab("0", vec(vec(ref("0")), lab("1", vec(ref("1"), ref("0"))))), []Node{{Kind: api.FormVector, Kids: []int{1, 2}}, {Kind: api.FormVector, Kids: []int{0}}, {Kind: api.FormVector, Kids: []int{2, 0}}}},
	} {
		g, e := Nodes(c.f)
		if e != api.OK || !equalGraphs(g, c.want) || CheckGraph(g) != api.OK {
			t.Errorf("%d: Nodes(%v) = %v, %v; want %v", i, c.f, g, e, c.want)
		}
	}
	for _, f := range append(wrongForms(), ref("0"), wide(api.MaxForm+1)) {
		if g, e := Nodes(f); e != Check(f) || len(g) != 0 {
			t.Errorf("Nodes(%s): %v", brief(f), e)
		}
	}
	// A list with n elements and a tail has n conses.
	elements := slices.Repeat([]api.Form{a}, 1998)
	if g, e := Nodes(dot(elements...)); e != api.OK || len(g) != 1998 {
		t.Errorf("Nodes of a long list: %d, %v", len(g), e)
	}
	for i := range elements[:1000] {
		elements[i] = num("1")
	}
	if _, e := Nodes(dot(elements[:1001]...)); e != api.ErrSize {
		t.Errorf("Nodes of a list that is too long: %v", e)
	}
	if g, e := Nodes(dot(elements[1:1001]...)); e != api.OK || len(g) != 1999 {
		t.Errorf("Nodes of a list that is just not too long: %d, %v", len(g), e)
	}
}

// wrongGraphs are graphs that are not right.
func wrongGraphs() [][]Node {
	one := Node{Kind: api.FormInt, Text: "1"}
	a := Node{Kind: api.FormSymbol, Text: "A"}
	v := func(kids ...int) Node { return Node{Kind: api.FormVector, Kids: kids} }
	c := func(kids ...int) Node { return Node{Kind: api.FormCons, Kids: kids} }
	z := func(kids ...int) Node { return Node{Kind: api.FormComplex, Kids: kids} }
	single := Node{Kind: api.FormSingle, Text: "3f800000"}
	return [][]Node{
		nil, {}, {{}}, {{Kind: api.FormLabel, Text: "0", Kids: []int{0}}}, {{Kind: api.FormRef, Text: "0"}}, {{Kind: -3}}, {v(1), {Kind: api.FormLabel, Text: "0", Kids: []int{0}}},
		{{Kind: api.FormInt, Text: "01"}}, {{Kind: api.FormInt, Text: "1", Home: "X"}}, {{Kind: api.FormInt, Text: "1", Kids: []int{0}}}, {{Kind: api.FormSymbol, Text: "\xff"}}, {{Kind: api.FormSymbol, Home: "\xff"}}, {{Kind: api.FormString, Text: "\xff"}}, {{Kind: api.FormRatio, Text: "2/4"}}, {{Kind: api.FormChar, Text: "ab"}}, {{Kind: api.FormBits, Text: "2"}}, {{Kind: api.FormVector, Text: "x"}},
		{c()}, {c(1), a}, {c(1, 1, 1), a}, {{Kind: api.FormCons, Text: "x", Kids: []int{0, 0}}}, {{Kind: api.FormArray, Text: "2 2", Kids: []int{0}}}, {{Kind: api.FormArray, Text: "1", Kids: []int{0}}}, {{Kind: api.FormArray}},
		{v(-1)}, {v(1)}, {v(1 << 40)}, {c(0, 2), a},
		{z()}, {z(1), one}, {z(1, 1), one}, {z(1, 2), one, {Kind: api.FormInt, Text: "0"}}, {z(1, 2), one, single}, {z(1, 2), single, one}, {z(1, 2), {Kind: api.FormString}, {Kind: api.FormString}}, {z(1, 2), a, one}, {z(0, 1), one}, {z(1, 2), one, z(3, 4), one, one},
		{v(1, 2), a, a}, {v(1, 1), one}, {v(1, 1), {Kind: api.FormChar, Text: "x"}}, {one, one}, {v(1, 2, 1), one, one}, {z(1, 2), one, one, one},
		{v(2, 1), a, one}, {v(), v()}, {v(1), v(1), a}, {v(0), v(0)}, {c(1, 3), c(2, 2), a, c(3, 3), c(4, 4)}, {c(2, 1), c(2, 2), a},
		slices.Repeat([]Node{v()}, api.MaxForm+1),
	}
}

func TestP1_1CheckGraph(t *testing.T) {
	single := Node{Kind: api.FormSingle, Text: "7f800000"}
	long := make([]Node, api.MaxForm)
	for i := range long {
		long[i] = Node{Kind: api.FormCons, Kids: []int{0, (i + 1) % len(long)}}
	}
	for _, g := range [][]Node{
		{{Kind: api.FormInt, Text: "1"}}, {{Kind: api.FormSymbol}}, {{Kind: api.FormVector}}, {{Kind: api.FormVector, Kids: []int{0, 0, 0}}}, {{Kind: api.FormComplex, Kids: []int{1, 2}}, single, single}, {{Kind: api.FormCons, Kids: []int{1, 2}}, {Kind: api.FormSymbol, Text: "A"}, {Kind: api.FormSymbol, Text: "A", Home: "P"}}, {{Kind: api.FormArray, Text: "0 9"}}, {{Kind: api.FormVector, Kids: slices.Repeat([]int{0}, 5000)}}, long,
	} {
		if e := CheckGraph(g); e != api.OK {
			t.Errorf("CheckGraph(%s) = %v", brief(g), e)
		}
	}
	for _, g := range wrongGraphs() {
		if e := CheckGraph(g); e != api.ErrForm {
			t.Errorf("CheckGraph(%s) = %v", brief(g), e)
		}
		f, e1 := Build(g)
		p, e2 := Part(g, -1)
		s, e3 := Shared(g)
		is, e4 := Circular(g, -1)
		l, last, e5 := Cars(g, -1)
		eql, e6 := Eql(g, -1, -1)
		alike, e7 := Alike(g, -1, -1)
		similar, e8 := Similar(g, -1, -1)
		c, e9 := Coalesce(g)
		for i, e := range []api.Errno{e1, e2, e3, e4, e5, e6, e7, e8, e9} {
			if e != api.ErrForm {
				t.Errorf("function %d of %s: %v", i, brief(g), e)
			}
		}
		if f.Kind != 0 || len(p)+len(s)+len(l)+len(c)+last > 0 || is || eql || alike || similar {
			t.Errorf("results with an error: %s", brief(g))
		}
	}
	g := graph(list(num("1")))
	for _, i := range []int{-1, len(g), 1 << 40} {
		_, e1 := Part(g, i)
		_, e2 := Circular(g, i)
		_, _, e3 := Cars(g, i)
		_, e4 := Eql(g, i, 0)
		_, e5 := Eql(g, 0, i)
		_, e6 := Alike(g, 0, i)
		_, e7 := Similar(g, i, 0)
		for k, e := range []api.Errno{e1, e2, e3, e4, e5, e6, e7} {
			if e != api.ErrArg {
				t.Errorf("function %d with the index %d: %v", k, i, e)
			}
		}
	}
}

func TestP1_1Build(t *testing.T) {
	for _, f := range []api.Form{
		lab("0", dot(sym("A"), ref("0"))), dot(sym("A"), lab("0", dot(sym("B"), ref("0")))), vec(lab("0", str("x")), ref("0")), vec(num("1"), num("1")), vec(lab("0", list(num("1"))), dot(num("2"), ref("0"))), dot(num("1"), lab("0", list(num("2"))), ref("0")), lab("0", dot(ref("0"), ref("0"))), lab("0", vec(lab("1", vec(ref("0"), ref("1"))), ref("1"))), num("7"), Nil(),
	} {
		if got, e := Build(graph(f)); e != api.OK || !Equal(got, f) {
			t.Errorf("Build of the nodes of %v: %v, %v", f, got, e)
		}
	}
	// Many nodes: a vector of n vectors, each of which occurs twice.
	shared := func(n int) []Node {
		g := []Node{{Kind: api.FormVector}}
		for i := range n {
			g[0].Kids = append(g[0].Kids, i+1)
			g = append(g, Node{Kind: api.FormVector})
		}
		g[0].Kids = append(g[0].Kids, g[0].Kids...)
		return g
	}
	if f, e := Build(shared(666)); e != api.OK || labelCount(f) != 666 {
		t.Errorf("Build with 1999 nodes: %v", e)
	}
	if f, e := Build(shared(667)); e != api.ErrSize || f.Kind != 0 {
		t.Errorf("Build with 2002 nodes: %v", e)
	}
	if _, e := Build(shared(1500)); e != api.ErrSize {
		t.Errorf("Build with more than 1000 labels: %v", e)
	}
	chain := func(n int) []Node {
		g := make([]Node, n)
		for i := range n - 1 {
			g[i] = Node{Kind: api.FormVector, Kids: []int{i + 1}}
		}
		g[n-1] = Node{Kind: api.FormVector}
		return g
	}
	if _, e := Build(chain(api.MaxDepth)); e != api.OK {
		t.Errorf("Build with the depth 100: %v", e)
	}
	if _, e := Build(chain(api.MaxDepth + 1)); e != api.ErrSize {
		t.Errorf("Build with the depth 101: %v", e)
	}
	if _, e := Build(chain(api.MaxForm)); e != api.ErrSize {
		t.Errorf("Build with the depth 2000: %v", e)
	}
	if _, e := Build([]Node{{Kind: api.FormVector, Kids: slices.Repeat([]int{0}, 1998)}}); e != api.OK {
		t.Errorf("Build with 1998 references: %v", e)
	}
	if _, e := Build([]Node{{Kind: api.FormVector, Kids: slices.Repeat([]int{0}, 1999)}}); e != api.ErrSize {
		t.Errorf("Build with 1999 references: %v", e)
	}
}

func TestP1_1Parts(t *testing.T) {
	g := graph(dot(str("x"), list(num("1"), str("y")), lab("1", vec(ref("1"))), sym("A")))
	for i, want := range []api.Form{dot(str("x"), list(num("1"), str("y")), lab("0", vec(ref("0"))), sym("A")), str("x")} {
		p, e := Part(g, i)
		if got, _ := Build(p); e != api.OK || !Equal(got, want) {
			t.Errorf("Part %d: %v, %v", i, got, e)
		}
	}
	for i := range g {
		want := g[i].Kind == api.FormVector
		if is, e := Circular(g, i); e != api.OK || is != want {
			t.Errorf("Circular %d: %v, %v", i, is, e)
		}
	}
	circle := graph(dot(num("1"), lab("0", dot(num("2"), vec(ref("0")), ref("0")))))
	for i, n := range circle {
		want := i != 0 && (n.Kind == api.FormCons || n.Kind == api.FormVector)
		if is, e := Circular(circle, i); e != api.OK || is != want {
			t.Errorf("Circular %d of a circle: %v, %v", i, is, e)
		}
	}
	for _, c := range []struct {
		f    api.Form
		i    int
		l    []int
		last int
		e    api.Errno
	}{
		{num("1"), 0, nil, 0, api.OK}, {dot(str("x"), str("y"), num("1")), 0, []int{1, 3}, 4, api.OK}, {dot(str("x"), str("y"), num("1")), 2, []int{3}, 4, api.OK}, {dot(str("x"), str("y"), num("1")), 3, nil, 3, api.OK}, {list(Nil(), Nil()), 0, []int{1, 1}, 1, api.OK}, {lab("0", dot(num("1"), ref("0"))), 0, nil, 0, api.ErrOrder}, {dot(num("1"), lab("0", dot(num("1"), ref("0")))), 0, nil, 0, api.ErrOrder}, {lab("0", dot(ref("0"), num("1"))), 0, []int{0}, 1, api.OK},
	} {
		if l, last, e := Cars(graph(c.f), c.i); e != c.e || last != c.last || !slices.Equal(l, c.l) {
			t.Errorf("Cars(%v, %d) = %v, %d, %v", c.f, c.i, l, last, e)
		}
	}
	for _, c := range []struct {
		f    api.Form
		want []int
	}{
		{vec(lab("0", str("x")), ref("0")), []int{1}}, {vec(sym("A"), sym("A")), nil}, {lab("0", vec(ref("0"))), []int{0}}, {vec(lab("0", str("x")), lab("1", vec()), ref("1"), ref("0"), ref("0")), []int{1, 2}}, {vec(str("x"), str("x")), nil}, {num("1"), nil}, {dot(num("1"), lab("0", dot(num("2"), ref("0")))), []int{2}},
	} {
		if l, e := Shared(graph(c.f)); e != api.OK || !slices.Equal(l, c.want) {
			t.Errorf("Shared(%v) = %v, %v", c.f, l, e)
		}
	}
}

func TestP1_7Graphs(t *testing.T) {
	for _, f := range randomForms(t, 7, 800) {
		g, e := Nodes(f)
		n, _ := Normal(f)
		b, d := Build(g)
		if e != api.OK || d != api.OK || CheckGraph(g) != api.OK || !Equal(b, n) {
			t.Fatalf("Build of Nodes of %v: %v, %v, %v", f, b, e, d)
		}
	}
	for _, g := range randomGraphs(71, 800, 25) {
		before := copied(g)
		if e := CheckGraph(g); e != api.OK {
			t.Fatalf("CheckGraph(%v) = %v", g, e)
		}
		f, e := Build(g)
		if e != api.OK {
			t.Fatalf("Build(%v): %v", g, e)
		}
		n, _ := Normal(f)
		if back, e := Nodes(f); e != api.OK || !equalGraphs(back, g) || !Equal(n, f) {
			t.Fatalf("Nodes of Build of %v: %v, %v", g, back, e)
		}
		if whole, e := Part(g, 0); e != api.OK || !equalGraphs(whole, g) {
			t.Fatalf("Part of the node 0: %v, %v", whole, e)
		}
		for i := range g {
			p, e := Part(g, i)
			if e != api.OK || CheckGraph(p) != api.OK {
				t.Fatalf("Part %d of %v: %v, %v", i, g, p, e)
			}
			// Part of a part: found by the order in which nodes are met.
			order := slices.Collect(met(g, i))
			for k := range p {
				q, _ := Part(p, k)
				if direct, _ := Part(g, order[k]); !equalGraphs(q, direct) {
					t.Fatalf("Part %d of Part %d of %v: %v", k, i, g, q)
				}
			}
		}
		shared, _ := Shared(g)
		if len(shared) != labelCount(f) || !slices.IsSorted(shared) {
			t.Fatalf("Shared(%v) = %v; Build has %d labels", g, shared, labelCount(f))
		}
		if !equalGraphs(g, before) {
			t.Fatal("a graph was changed")
		}
	}
}

// slowRelation takes pairs out of the full relation until all that are left agree.
func slowRelation(g []Node, byValue func(i, k int) bool, byParts func(a, b Node) bool) [][]bool {
	in := make([][]bool, len(g))
	for i := range g {
		in[i] = make([]bool, len(g))
		for k := range g {
			in[i][k] = true
		}
	}
	for changed := true; changed; {
		changed = false
		for i, a := range g {
			for k, b := range g {
				agree := i == k || byValue(i, k)
				if !agree && byParts(a, b) {
					agree = true
					for n := range a.Kids {
						agree = agree && in[a.Kids[n]][b.Kids[n]]
					}
				}
				if in[i][k] && !agree {
					in[i][k] = false
					changed = true
				}
			}
		}
	}
	return in
}

func slowRelations(g []Node) (eql, alike, similar [][]bool) {
	both := func(a, b Node, kinds ...int) bool { return a.Kind == b.Kind && slices.Contains(kinds, a.Kind) }
	eql = slowRelation(g, func(i, k int) bool {
		return both(g[i], g[k], api.FormInt, api.FormRatio, api.FormSingle, api.FormDouble, api.FormChar) && g[i].Text == g[k].Text
	}, func(a, b Node) bool { return both(a, b, api.FormComplex) })
	alike = slowRelation(g, func(i, k int) bool {
		return eql[i][k] || both(g[i], g[k], api.FormString, api.FormBits) && g[i].Text == g[k].Text
	}, func(a, b Node) bool { return both(a, b, api.FormCons) })
	similar = slowRelation(g, func(i, k int) bool { return alike[i][k] }, func(a, b Node) bool {
		return both(a, b, api.FormComplex, api.FormCons) || both(a, b, api.FormVector) && len(a.Kids) == len(b.Kids) || both(a, b, api.FormArray) && a.Text == b.Text
	})
	return eql, alike, similar
}

func TestP1_8Relations(t *testing.T) {
	graphs := randomGraphs(8, 250, 14)
	for _, f := range randomForms(t, 8, 60) {
		if g := graph(f); len(g) < 40 {
			graphs = append(graphs, g)
		}
	}
	for _, g := range graphs {
		eql, alike, similar := slowRelations(g)
		for i := range g {
			for k := range g {
				a, e1 := Eql(g, i, k)
				b, e2 := Alike(g, i, k)
				c, e3 := Similar(g, i, k)
				if e1 != api.OK || e2 != api.OK || e3 != api.OK || a != eql[i][k] || b != alike[i][k] || c != similar[i][k] {
					t.Fatalf("%v, nodes %d and %d: %v, %v, %v", g, i, k, a, b, c)
				}
				if a && !b || b && !c || a != eql[k][i] || b != alike[k][i] || c != similar[k][i] {
					t.Fatalf("%v, nodes %d and %d: no such relations", g, i, k)
				}
				for m := range g {
					if c && similar[k][m] && !similar[i][m] || b && alike[k][m] && !alike[i][m] {
						t.Fatalf("%v: not transitive", g)
					}
				}
			}
		}
	}
}

func TestP1_8Coalesce(t *testing.T) {
	graphs := randomGraphs(81, 400, 20)
	for _, f := range randomForms(t, 81, 200) {
		graphs = append(graphs, graph(f))
	}
	for _, g := range graphs {
		c, e := Coalesce(g)
		if e != api.OK || CheckGraph(c) != api.OK {
			t.Fatalf("Coalesce(%v) = %v, %v", g, c, e)
		}
		for i := range c {
			for k := range i {
				if is, _ := Similar(c, i, k); is && hasIdentity(c[i].Kind) {
					t.Fatalf("Coalesce(%v) = %v: %d and %d are similar", g, c, k, i)
				}
			}
		}
		if again, e := Coalesce(c); e != api.OK || !equalGraphs(again, c) {
			t.Fatalf("Coalesce of Coalesce of %v: %v", g, again)
		}
		// Both in one graph: a vector of the first nodes, where equal symbols are one node.
		one := append([]Node{{Kind: api.FormVector, Kids: []int{1, 1 + len(g)}}}, moved(g, 1)...)
		one = append(one, moved(c, 1+len(g))...)
		first := map[[2]string]int{}
		for i, n := range one {
			name := [2]string{n.Home, n.Text}
			if _, known := first[name]; n.Kind == api.FormSymbol && !known {
				first[name] = i
			}
		}
		for i, n := range one {
			for k, kid := range n.Kids {
				if one[kid].Kind == api.FormSymbol {
					one[i].Kids[k] = first[[2]string{one[kid].Home, one[kid].Text}]
				}
			}
		}
		one = part(one, 0)
		if is, e := Similar(one, one[0].Kids[0], one[0].Kids[1]); len(one) <= api.MaxForm && (e != api.OK || !is) {
			t.Fatalf("Coalesce(%v) = %v is not similar: %v", g, c, e)
		}
	}
}

// moved returns nodes whose indices are greater.
func moved(g []Node, by int) []Node {
	out := copied(g)
	for _, n := range out {
		for k := range n.Kids {
			n.Kids[k] += by
		}
	}
	return out
}

func TestP1_8Long(t *testing.T) {
	// Two circles whose lengths have no common divisor, in one graph.
	var g []Node
	g = append(g, Node{Kind: api.FormVector, Kids: []int{1, 1 + 500}})
	for i := range 500 {
		g = append(g, Node{Kind: api.FormCons, Kids: []int{1 + i, 1 + (i+1)%500}})
	}
	for i := range 501 {
		g = append(g, Node{Kind: api.FormCons, Kids: []int{501 + i, 501 + (i+1)%501}})
	}
	if e := CheckGraph(g); e != api.OK {
		t.Fatalf("CheckGraph: %v", e)
	}
	if is, e := Similar(g, 1, 501); e != api.OK || !is {
		t.Errorf("two circles: %v, %v", is, e)
	}
	c, e := Coalesce(g)
	if want := []Node{{Kind: api.FormVector, Kids: []int{1, 1}}, {Kind: api.FormCons, Kids: []int{1, 1}}}; e != api.OK || !equalGraphs(c, want) {
		t.Errorf("Coalesce of two circles: %s, %v", brief(c), e)
	}
	// A long list has as many classes as conses.
	l := graph(list(slices.Repeat([]api.Form{Nil()}, 1990)...))
	if c, e := Coalesce(l); e != api.OK || !equalGraphs(c, l) {
		t.Errorf("Coalesce of a long list: %d, %v", len(c), e)
	}
}
