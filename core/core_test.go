package core_test

import (
	"math/rand/v2"
	"slices"
	"strings"
	"testing"

	"commonform/api"
	"commonform/core"
	"commonform/forms"
)

func lisp(name string) api.Form { return forms.Symbol("COMMON-LISP", name) }

func node(op int, kids ...api.Core) api.Core { return api.Core{Op: op, Kids: kids} }

func variable(n int) api.Core { return api.Core{Op: api.CoreVar, N: n} }

func constant(text string) api.Core {
	return api.Core{Op: api.CoreConst, Data: api.Form{Kind: api.FormInt, Text: text}}
}

// random makes random right trees.
type random struct {
	*rand.Rand
	free [3][]int // numbers that are still to be given, in any order
}

func newRandom(seed uint64) *random {
	r := &random{Rand: rand.New(rand.NewPCG(19, seed))}
	r.refill()
	return r
}

func (r *random) refill() {
	for i := range r.free {
		r.free[i] = r.Perm(300)
		r.free[i][0], r.free[i][1] = 9999, 300
	}
}

func (r *random) number(kind int) int {
	n := r.free[kind][0]
	r.free[kind] = r.free[kind][1:]
	return n
}

// known has the numbers that are in scope, by their kinds: variables, blocks and tags.
type known [3][]int

func (k known) with(kind int, n ...int) known {
	k[kind] = append(slices.Clone(k[kind]), n...)
	return k
}

func (r *random) pick(l ...string) string { return l[r.IntN(len(l))] }

func (r *random) name() api.Form {
	return forms.Symbol(r.pick("COMMON-LISP", "U", "KEYWORD", "%"), r.pick("X", "y z", "é", "A(", "", "~7e"))
}

func (r *random) data() api.Form {
	if r.IntN(6) == 0 {
		return api.Form{Kind: api.FormLabel, Text: "5", Kids: []api.Form{{Kind: api.FormCons, Kids: []api.Form{r.part(), {Kind: api.FormRef, Text: "5"}}}}}
	}
	return r.part()
}

// part returns a random form without labels.
func (r *random) part() api.Form {
	switch r.IntN(6) {
	case 0:
		return r.name()
	case 1:
		return api.Form{Kind: api.FormString, Text: r.pick("", "a b\n", "\x00~:")}
	case 2:
		return forms.Dotted([]api.Form{r.part(), r.part()}, api.Form{Kind: api.FormInt, Text: "-7"})
	case 3:
		return api.Form{Kind: api.FormVector}
	}
	return api.Form{Kind: api.FormChar, Text: r.pick("a", "~", "€")}
}

func (r *random) trees(n, depth int, k known) []api.Core {
	var out []api.Core
	for range n {
		out = append(out, r.tree(depth, k))
	}
	return out
}

func (r *random) numbers(kind int) []int {
	var out []int
	for range r.IntN(3) {
		out = append(out, r.number(kind))
	}
	return out
}

// tree returns a random right tree.
func (r *random) tree(depth int, k known) api.Core {
	if depth <= 0 {
		return r.leaf(k)
	}
	depth--
	all := func(n int) []api.Core { return r.trees(n, depth, k) }
	switch r.IntN(20) {
	case 0:
		if len(k[0]) > 0 {
			return api.Core{Op: api.CoreSet, N: k[0][r.IntN(len(k[0]))], Kids: all(1)}
		}
		return node(api.CoreIf, all(3)...)
	case 1:
		return api.Core{Op: api.CoreSetSpecial, Data: r.name(), Kids: all(1)}
	case 2, 3:
		return r.lambda(depth, k)
	case 4:
		return node(api.CoreCall, all(1+r.IntN(3))...)
	case 5:
		return api.Core{Op: api.CoreCallGlobal, Data: r.name(), Kids: all(r.IntN(3))}
	case 6:
		return node(api.CoreIf, all(3)...)
	case 7:
		return node(api.CoreProgn, all(r.IntN(4))...)
	case 8, 9:
		vars := r.numbers(0)
		inits := all(len(vars))
		return api.Core{Op: api.CoreLet, Vars: vars, Kids: append(inits, r.tree(depth, k.with(0, vars...)))}
	case 10:
		vars := r.numbers(0)
		k = k.with(0, vars...)
		var kids []api.Core
		for range vars {
			kids = append(kids, r.lambda(depth, k))
		}
		return api.Core{Op: api.CoreLabels, Vars: vars, Kids: append(kids, r.tree(depth, k))}
	case 11:
		var syms []api.Form
		for _, s := range []string{"S", "R", "Q"}[:r.IntN(4)] {
			syms = append(syms, forms.Symbol(r.pick("A", "B"), s))
		}
		return api.Core{Op: api.CoreBind, Syms: syms, Kids: all(len(syms) + 1)}
	case 12:
		return node(api.CoreProgv, all(3)...)
	case 13:
		n := r.number(1)
		return api.Core{Op: api.CoreBlock, N: n, Kids: r.trees(1, depth, k.with(1, n))}
	case 14:
		if len(k[1]) > 0 {
			return api.Core{Op: api.CoreReturn, N: k[1][r.IntN(len(k[1]))], Kids: all(1)}
		}
		return node(api.CoreCatch, all(2)...)
	case 15:
		vars := r.numbers(2)
		return api.Core{Op: api.CoreTagbody, Vars: vars, Kids: r.trees(len(vars)+1, depth, k.with(2, vars...))}
	case 16:
		return node(api.CoreThrow, all(2)...)
	case 17:
		return node(api.CoreProtect, all(2)...)
	case 18:
		return node(api.CoreValuesCall, all(1+r.IntN(3))...)
	}
	return node(api.CoreValuesFirst, all(1+r.IntN(3))...)
}

func (r *random) leaf(k known) api.Core {
	switch r.IntN(6) {
	case 0:
		return api.Core{Op: api.CoreSpecial, Data: r.name()}
	case 1:
		return api.Core{Op: api.CoreFunction, Data: r.name()}
	case 2, 3:
		if len(k[0]) > 0 {
			return variable(k[0][r.IntN(len(k[0]))])
		}
	case 4:
		if len(k[2]) > 0 {
			return api.Core{Op: api.CoreGo, N: k[2][r.IntN(len(k[2]))]}
		}
	}
	return api.Core{Op: api.CoreConst, Data: r.data()}
}

func (r *random) lambda(depth int, k known) api.Core {
	out := api.Core{Op: api.CoreLambda, N: r.IntN(2)}
	keys := 0
	for _, kind := range []int{1, 1, 2, 2, 3, 4, 4} {
		if r.IntN(3) > 0 {
			continue
		}
		p := api.Param{Kind: kind, Var: r.number(0), Given: -1}
		if kind == api.ParamOptional || kind == api.ParamKey {
			out.Kids = append(out.Kids, r.tree(depth-1, k))
			if r.IntN(2) == 0 {
				p.Given = r.number(0)
				k = k.with(0, p.Given)
			}
		}
		if kind == api.ParamKey {
			keys++
			p.Key = forms.Symbol(r.pick("KEYWORD", "", "COMMON-LISP"), []string{"", "NIL", "K 2"}[keys])
		}
		k = k.with(0, p.Var)
		out.Pars = append(out.Pars, p)
	}
	out.Kids = append(out.Kids, r.tree(depth, k))
	return out
}

// right makes a random right tree that is not too large.
func (r *random) right(t *testing.T) api.Core {
	t.Helper()
	for {
		r.refill()
		if c := r.tree(1+r.IntN(5), known{}); core.Size(c) > 0 && core.Size(c) < 60 {
			if e := core.Check(c); e != api.OK {
				t.Fatalf("Check(%v) = %v", c, e)
			}
			return c
		}
	}
}

// paths returns the places of all nodes, from the root on.
func paths(c api.Core, at []int) [][]int {
	out := [][]int{slices.Clone(at)}
	for i, kid := range c.Kids {
		out = append(out, paths(kid, append(at, i))...)
	}
	return out
}

func at(c api.Core, path []int) api.Core {
	for _, i := range path {
		c = c.Kids[i]
	}
	return c
}

// replaced returns a tree with another node at a place.
func replaced(c api.Core, path []int, x api.Core) api.Core {
	if len(path) == 0 {
		return x
	}
	c.Kids = slices.Clone(c.Kids)
	c.Kids[path[0]] = replaced(c.Kids[path[0]], path[1:], x)
	return c
}

// model says by the definitions whether a tree is right, node by node and use by use.
func model(c api.Core) bool {
	bound := map[[2]int][]int{} // where a number of a kind is bound
	for _, path := range paths(c, nil) {
		x := at(c, path)
		if !modelFields(x) {
			return false
		}
		for kind, numbers := range modelBound(x) {
			for _, n := range numbers {
				if _, ok := bound[[2]int{kind, n}]; ok || n < 0 || n > 9999 {
					return false
				}
				bound[[2]int{kind, n}] = path
			}
		}
	}
	for _, path := range paths(c, nil) {
		x := at(c, path)
		kind := map[int]int{api.CoreVar: 0, api.CoreSet: 0, api.CoreReturn: 1, api.CoreGo: 2}
		k, ok := kind[x.Op]
		if !ok {
			continue
		}
		binder, ok := bound[[2]int{k, x.N}]
		if !ok || len(path) <= len(binder) || !slices.Equal(path[:len(binder)], binder) || !modelSees(at(c, binder), x.N, path[len(binder)]) {
			return false
		}
	}
	return true
}

// modelBound returns the numbers that a node binds, by their kinds.
func modelBound(x api.Core) [3][]int {
	var out [3][]int
	switch x.Op {
	case api.CoreLet, api.CoreLabels:
		out[0] = x.Vars
	case api.CoreLambda:
		for _, p := range x.Pars {
			out[0] = append(out[0], p.Var)
			if p.Given != -1 {
				out[0] = append(out[0], p.Given)
			}
		}
	case api.CoreBlock:
		out[1] = []int{x.N}
	case api.CoreTagbody:
		out[2] = x.Vars
	}
	return out
}

// modelSees reports whether a kid of a binder is in the scope of a number.
func modelSees(x api.Core, n, kid int) bool {
	switch x.Op {
	case api.CoreLet:
		return kid == len(x.Kids)-1
	case api.CoreLambda:
		inits := 0
		for _, p := range x.Pars {
			if p.Kind == api.ParamOptional || p.Kind == api.ParamKey {
				inits++
			}
			if p.Var == n || p.Given == n {
				return kid >= inits
			}
		}
	}
	return true
}

func modelSymbol(f api.Form) bool {
	return f.Kind == api.FormSymbol && forms.Check(f) == api.OK
}

func modelName(f api.Form) bool {
	return modelSymbol(f) && f.Home != "" && !forms.Equal(f, lisp("NIL")) && !forms.Equal(f, lisp("T"))
}

func modelFields(x api.Core) bool {
	n, vars, syms, pars, data, named := false, false, false, false, false, false
	least, most := 0, 0
	switch x.Op {
	case api.CoreConst:
		data = true
	case api.CoreVar, api.CoreGo:
		n = true
	case api.CoreSet, api.CoreBlock, api.CoreReturn:
		n, least, most = true, 1, 1
	case api.CoreSpecial, api.CoreFunction:
		named = true
	case api.CoreSetSpecial:
		named, least, most = true, 1, 1
	case api.CoreLambda:
		n, pars, least = true, true, 1
		for _, p := range x.Pars {
			if p.Kind%2 == 0 {
				least++
			}
		}
		most = least
	case api.CoreCall, api.CoreValuesCall, api.CoreValuesFirst:
		least, most = 1, 1<<30
	case api.CoreCallGlobal:
		named, most = true, 1<<30
	case api.CoreIf, api.CoreProgv:
		least, most = 3, 3
	case api.CoreProgn:
		most = 1 << 30
	case api.CoreLet, api.CoreLabels, api.CoreTagbody:
		vars, least, most = true, len(x.Vars)+1, len(x.Vars)+1
	case api.CoreBind:
		syms, least, most = true, len(x.Syms)+1, len(x.Syms)+1
	case api.CoreCatch, api.CoreThrow, api.CoreProtect:
		least, most = 2, 2
	default:
		return false
	}
	if x.Op == api.CoreLabels {
		for _, kid := range x.Kids[:max(0, len(x.Kids)-1)] {
			if kid.Op != api.CoreLambda {
				return false
			}
		}
	}
	zero := forms.Equal(x.Data, api.Form{})
	switch {
	case !n && x.N != 0, x.Op == api.CoreLambda && x.N != 0 && x.N != 1, !vars && len(x.Vars) > 0, !syms && len(x.Syms) > 0, !pars && len(x.Pars) > 0, !data && !named && !zero:
		return false
	case data && forms.Check(x.Data) != api.OK, named && !modelName(x.Data), len(x.Kids) < least, len(x.Kids) > most:
		return false
	}
	for i, f := range x.Syms {
		if !modelName(f) || slices.ContainsFunc(x.Syms[:i], func(g api.Form) bool { return forms.Equal(f, g) }) {
			return false
		}
	}
	return modelParams(x.Pars)
}

func modelParams(l []api.Param) bool {
	for i, p := range l {
		if p.Kind < 1 || p.Kind > 4 || p.Given != -1 && p.Kind%2 == 1 || p.Kind != 4 && !forms.Equal(p.Key, api.Form{}) || p.Kind == 4 && !modelSymbol(p.Key) {
			return false
		}
		for _, q := range l[:i] {
			if q.Kind > p.Kind || p.Kind == 3 && q.Kind == 3 || p.Kind == 4 && q.Kind == 4 && forms.Equal(p.Key, q.Key) {
				return false
			}
		}
	}
	return true
}

// damaged changes something in a node.
func (r *random) damaged(x api.Core, others []api.Core) api.Core {
	x.Vars, x.Syms, x.Pars, x.Kids = slices.Clone(x.Vars), slices.Clone(x.Syms), slices.Clone(x.Pars), slices.Clone(x.Kids)
	other := others[r.IntN(len(others))]
	switch r.IntN(14) {
	case 0:
		x.Op = r.IntN(27) - 1
	case 1:
		x.N = []int{-1, 0, 1, 5, 9999, 10000, other.N}[r.IntN(7)]
	case 2:
		x.Kids = append(x.Kids, other)
	case 3:
		if len(x.Kids) > 0 {
			x.Kids = x.Kids[1:]
		}
	case 4:
		x.Vars = append(x.Vars, []int{-1, 10000, 299, other.N}[r.IntN(4)])
	case 5:
		if len(x.Vars) > 0 {
			x.Vars[0] = []int{-1, 10000, other.N, x.Vars[len(x.Vars)-1]}[r.IntN(4)]
		}
	case 6:
		x.Data = []api.Form{{}, lisp("NIL"), lisp("T"), {Kind: api.FormSymbol, Text: "X"}, r.name(), {Kind: api.FormInt, Text: "01"}, {Kind: api.FormSymbol, Text: "\xff", Home: "U"}, {Kind: api.FormRef, Text: "5"}}[r.IntN(8)]
	case 7:
		x.Syms = append(x.Syms, r.name())
	case 8:
		if len(x.Syms) > 0 {
			x.Syms[0] = []api.Form{x.Syms[len(x.Syms)-1], lisp("T"), {Kind: api.FormSymbol, Text: "X"}, {}, {Kind: api.FormString}}[r.IntN(5)]
		}
	case 9:
		x.Pars = append(x.Pars, api.Param{Kind: r.IntN(6), Var: 298, Given: r.IntN(2) - 1})
	case 10, 11:
		if n := len(x.Pars); n > 0 {
			p := &x.Pars[r.IntN(n)]
			switch r.IntN(4) {
			case 0:
				p.Kind = r.IntN(6)
			case 1:
				p.Var = []int{-1, 10000, p.Given, other.N}[r.IntN(4)]
			case 2:
				p.Given = []int{-2, -1, 10000, p.Var, 297}[r.IntN(5)]
			case 3:
				p.Key = []api.Form{{}, x.Pars[n-1].Key, x.Pars[0].Key, lisp("NIL"), {Kind: api.FormInt, Text: "1"}, {Kind: api.FormSymbol, Home: "KEYWORD", Text: "\xfe"}}[r.IntN(6)]
			}
		}
	case 12:
		return other
	case 13:
		if len(x.Kids) > 1 {
			x.Kids[0], x.Kids[len(x.Kids)-1] = x.Kids[len(x.Kids)-1], x.Kids[0]
		}
	}
	return x
}

func TestP19_1CheckAny(t *testing.T) {
	r := newRandom(1)
	counts := map[api.Errno]int{}
	for range 15000 {
		c := r.right(t)
		if !model(c) {
			t.Fatalf("the model takes %v for wrong", c)
		}
		l := paths(c, nil)
		var others []api.Core
		for _, path := range l {
			others = append(others, at(c, path))
		}
		path := l[r.IntN(len(l))]
		d := replaced(c, path, r.damaged(at(c, path), others))
		want := api.ErrForm
		if model(d) {
			want = api.OK
		}
		if e := core.Check(d); e != want {
			t.Fatalf("Check(%v) = %v, want %v", d, e, want)
		}
		counts[want]++
		if want == api.OK {
			continue
		}
		if s, e := core.Show(d); e != api.ErrForm || s != "" {
			t.Fatalf("Show(%v) = %s, %v", d, s, e)
		}
		if x, e := core.Renamed(d, 0); e != api.ErrForm || x.Op != 0 {
			t.Fatalf("Renamed(%v) = %v, %v", d, x, e)
		}
		if core.Same(d, d) || core.Same(c, d) || core.Same(d, c) {
			t.Fatalf("%v, which is wrong, is the Same", d)
		}
	}
	if counts[api.OK] < 1500 || counts[api.ErrForm] < 5000 {
		t.Errorf("%d trees are right, %d are not", counts[api.OK], counts[api.ErrForm])
	}
}

func TestP19_1Check(t *testing.T) {
	x, a := lisp("X"), forms.Symbol("KEYWORD", "A")
	body := constant("1")
	lambda := func(n int, pars []api.Param, kids ...api.Core) api.Core {
		return api.Core{Op: api.CoreLambda, N: n, Pars: pars, Kids: kids}
	}
	for _, c := range []api.Core{
		body,
		{Op: api.CoreConst, Data: lisp("NIL")},
		{Op: api.CoreSpecial, Data: a},
		{Op: api.CoreLet, Kids: []api.Core{body}},
		{Op: api.CoreLabels, Kids: []api.Core{body}},
		{Op: api.CoreBind, Kids: []api.Core{body}},
		{Op: api.CoreTagbody, Kids: []api.Core{body}},
		{Op: api.CoreLet, Vars: []int{9999}, Kids: []api.Core{body, variable(9999)}},
		lambda(1, nil, body),
		lambda(0, []api.Param{{Kind: 1, Var: 0, Given: -1}, {Kind: 2, Var: 1, Given: 2}, {Kind: 3, Var: 3, Given: -1}, {Kind: 4, Var: 4, Given: 5, Key: a}, {Kind: 4, Var: 6, Given: -1, Key: lisp("NIL")}, {Kind: 4, Var: 7, Given: -1, Key: api.Form{Kind: api.FormSymbol}}}, variable(0), variable(2), variable(5), body, variable(6)),
		{Op: api.CoreLabels, Vars: []int{1, 2}, Kids: []api.Core{lambda(0, nil, variable(2)), lambda(0, nil, variable(1)), variable(1)}},
		{Op: api.CoreBlock, N: 3, Kids: []api.Core{lambda(0, nil, api.Core{Op: api.CoreReturn, N: 3, Kids: []api.Core{body}})}},
		{Op: api.CoreTagbody, Vars: []int{3}, Kids: []api.Core{{Op: api.CoreGo, N: 3}, lambda(0, nil, api.Core{Op: api.CoreGo, N: 3})}},
	} {
		if e := core.Check(c); e != api.OK {
			t.Errorf("Check(%v) = %v", c, e)
		}
	}
	for _, c := range []api.Core{
		{},
		{Op: -1}, {Op: 25},
		variable(0),
		{Op: api.CoreLet, Vars: []int{0}, Kids: []api.Core{variable(0), body}},
		{Op: api.CoreLet, Vars: []int{0, 0}, Kids: []api.Core{body, body, body}},
		{Op: api.CoreLet, Vars: []int{10000}, Kids: []api.Core{body, body}},
		{Op: api.CoreLet, Vars: []int{-1}, Kids: []api.Core{body, body}},
		{Op: api.CoreLet, Kids: nil},
		node(api.CoreProgn, api.Core{Op: api.CoreLet, Vars: []int{0}, Kids: []api.Core{body, body}}, variable(0)),
		node(api.CoreProgn, api.Core{Op: api.CoreLet, Vars: []int{0}, Kids: []api.Core{body, body}}, api.Core{Op: api.CoreLet, Vars: []int{0}, Kids: []api.Core{body, body}}),
		{Op: api.CoreLabels, Vars: []int{0}, Kids: []api.Core{body, body}},
		{Op: api.CoreConst},
		{Op: api.CoreConst, Data: x, N: 1},
		{Op: api.CoreConst, Data: x, Kids: []api.Core{body}},
		{Op: api.CoreFunction, Data: lisp("NIL")},
		{Op: api.CoreSpecial, Data: lisp("T")},
		{Op: api.CoreSetSpecial, Data: api.Form{Kind: api.FormSymbol, Text: "X"}, Kids: []api.Core{body}},
		{Op: api.CoreCallGlobal, Data: api.Form{Kind: api.FormSymbol, Text: "X", Home: "U", Kids: []api.Form{x}}},
		{Op: api.CoreBind, Syms: []api.Form{x, x}, Kids: []api.Core{body, body, body}},
		lambda(2, nil, body),
		lambda(-1, nil, body),
		lambda(0, []api.Param{{Kind: 2, Var: 0, Given: -1}}, variable(0), body),
		lambda(0, []api.Param{{Kind: 2, Var: 0, Given: 1}}, variable(1), body),
		lambda(0, []api.Param{{Kind: 2, Var: 0, Given: 0}}, body, body),
		lambda(0, []api.Param{{Kind: 2, Var: 0, Given: -2}}, body, body),
		lambda(0, []api.Param{{Kind: 1, Var: 0}}, body),
		lambda(0, []api.Param{{Kind: 3, Var: 0, Given: -1}, {Kind: 3, Var: 1, Given: -1}}, body),
		lambda(0, []api.Param{{Kind: 2, Var: 0, Given: -1}, {Kind: 1, Var: 1, Given: -1}}, body, body),
		lambda(0, []api.Param{{Kind: 4, Var: 0, Given: -1, Key: a}, {Kind: 4, Var: 1, Given: -1, Key: a}}, body, body, body),
		lambda(0, []api.Param{{Kind: 4, Var: 0, Given: -1}}, body, body),
		lambda(0, []api.Param{{Kind: 1, Var: 0, Given: -1, Key: a}}, body),
		lambda(0, []api.Param{{Kind: 0, Var: 0, Given: -1}}, body),
		lambda(0, []api.Param{{Kind: 5, Var: 0, Given: -1}}, body),
		{Op: api.CoreReturn, Kids: []api.Core{body}},
		{Op: api.CoreGo},
		node(api.CoreProgn, api.Core{Op: api.CoreBlock, Kids: []api.Core{body}}, api.Core{Op: api.CoreReturn, Kids: []api.Core{body}}),
		node(api.CoreProgn, api.Core{Op: api.CoreBlock, Kids: []api.Core{body}}, api.Core{Op: api.CoreBlock, Kids: []api.Core{body}}),
	} {
		if e := core.Check(c); e != api.ErrForm {
			t.Errorf("Check(%v) = %v", c, e)
		}
	}
}

// deep returns a tree of a depth.
func deep(depth int) api.Core {
	c := constant("1")
	for range depth - 1 {
		c = node(api.CoreProgn, c)
	}
	return c
}

// wide returns a tree of so many nodes.
func wide(nodes int) api.Core {
	return node(api.CoreProgn, slices.Repeat([]api.Core{constant("1")}, nodes-1)...)
}

func TestP19_1Sizes(t *testing.T) {
	for _, x := range []struct {
		c    api.Core
		size int
	}{{deep(100), 100}, {wide(2000), 2000}, {constant("1"), 1}, {api.Core{}, 1}, {api.Core{Op: 99, Kids: []api.Core{{}, {}}}, 3}} {
		if n := core.Size(x.c); n != x.size {
			t.Errorf("Size = %d, want %d", n, x.size)
		}
	}
	free := api.Core{Op: api.CoreVar, N: 7}
	for _, c := range []api.Core{deep(101), wide(2001)} {
		if e := core.Check(c); e != api.ErrSize {
			t.Errorf("Check of a tree that is too large: %v", e)
		}
		if _, e := core.Show(c); e != api.ErrForm {
			t.Errorf("Show of a tree that is too large: %v", e)
		}
		if _, e := core.Renamed(c, 1); e != api.ErrForm {
			t.Errorf("Renamed of a tree that is too large: %v", e)
		}
		if core.Same(c, c) {
			t.Errorf("trees that are too large are the Same")
		}
		c.Kids[len(c.Kids)-1] = free
		if n, l := core.Size(c), core.Free(c); len(c.Kids) > 1 && (n != 0 || len(l) > 0) {
			t.Errorf("Size and Free of a tree that is too large: %d, %v", n, l)
		}
	}
	large := node(api.CoreProgn, deep(100), constant("01"))
	if e := core.Check(large); e != api.ErrSize {
		t.Errorf("Check of a tree that is too deep, and wrong: %v", e)
	}
}

func TestP19_1Free(t *testing.T) {
	use := func(n int) api.Core { return api.Core{Op: api.CoreSet, N: n, Kids: []api.Core{variable(n + 1)}} }
	for _, x := range []struct {
		c    api.Core
		want []int
	}{
		{constant("1"), nil},
		{variable(3), []int{3}},
		{node(api.CoreProgn, use(7), use(3), use(7)), []int{3, 4, 7, 8}},
		{api.Core{Op: api.CoreLet, Vars: []int{3}, Kids: []api.Core{use(1), use(3)}}, []int{1, 2, 4}},
		{api.Core{Op: api.CoreLabels, Vars: []int{3}, Kids: []api.Core{use(3), use(3)}}, []int{4}},
		{api.Core{Op: api.CoreLambda, Pars: []api.Param{{Kind: 2, Var: 3, Given: 4}, {Kind: 1, Var: 9, Given: -1}}, Kids: []api.Core{use(1), use(3), variable(9)}}, []int{1, 2}},
		{api.Core{Op: api.CoreLambda, Pars: []api.Param{{Kind: 2, Var: 3, Given: 0}}, Kids: []api.Core{constant("1"), use(0)}}, []int{1}},
		{api.Core{Op: api.CoreBlock, N: 5, Kids: []api.Core{{Op: api.CoreReturn, N: 5, Kids: []api.Core{variable(5)}}}}, []int{5}},
		{api.Core{Op: api.CoreTagbody, Vars: []int{5}, Kids: []api.Core{variable(5), {Op: api.CoreGo, N: 5}}}, []int{5}},
	} {
		if l := core.Free(x.c); !slices.Equal(l, x.want) {
			t.Errorf("Free(%v) = %v, want %v", x.c, l, x.want)
		}
	}
}

func TestP19_1Show(t *testing.T) {
	x := lisp("X")
	one := constant("1")
	for _, c := range []struct {
		c    api.Core
		want string
	}{
		{api.Core{Op: api.CoreSetSpecial, Data: x, Kids: []api.Core{one}}, "(setspecial 1:COMMON-LISP:X (const 2::1))"},
		{api.Core{Op: api.CoreCallGlobal, Data: x}, "(callglobal 1:COMMON-LISP:X)"},
		{api.Core{Op: api.CoreCallGlobal, Data: forms.Symbol("azAZ09", "@[`{/:")}, "(callglobal 1:azAZ09:~40~5b~60~7b/~3a)"},
		{api.Core{Op: api.CoreFunction, Data: forms.Symbol("U V", "a:~é")}, "(function 1:U~20V:a~3a~7e~c3~a9)"},
		{node(api.CoreValuesCall, one), "(valuescall (const 2::1))"},
		{node(api.CoreValuesFirst, one, one), "(valuesfirst (const 2::1) (const 2::1))"},
		{node(api.CoreProgv, one, one, one), "(progv (const 2::1) (const 2::1) (const 2::1))"},
		{node(api.CoreIf, one, one, node(api.CoreProgn)), "(if (const 2::1) (const 2::1) (progn))"},
		{node(api.CoreCatch, one, node(api.CoreThrow, one, one)), "(catch (const 2::1) (throw (const 2::1) (const 2::1)))"},
		{node(api.CoreProtect, one, one), "(protect (const 2::1) (const 2::1))"},
		{api.Core{Op: api.CoreBind, Kids: []api.Core{one}}, "(bind [] (const 2::1))"},
		{api.Core{Op: api.CoreBind, Syms: []api.Form{x, forms.Symbol("U", "")}, Kids: []api.Core{one, one, one}}, "(bind [1:COMMON-LISP:X 1:U:] (const 2::1) (const 2::1) (const 2::1))"},
		{api.Core{Op: api.CoreLet, Vars: []int{12, 3}, Kids: []api.Core{one, one, {Op: api.CoreSet, N: 3, Kids: []api.Core{variable(12)}}}}, "(let [12 3] (const 2::1) (const 2::1) (set 3 (var 12)))"},
		{api.Core{Op: api.CoreLabels, Kids: []api.Core{one}}, "(labels [] (const 2::1))"},
		{api.Core{Op: api.CoreBlock, N: 7, Kids: []api.Core{{Op: api.CoreReturn, N: 7, Kids: []api.Core{one}}}}, "(block 7 (return 7 (const 2::1)))"},
		{api.Core{Op: api.CoreLambda, N: 1, Pars: []api.Param{{Kind: 2, Var: 8, Given: 4}, {Kind: 4, Var: 0, Given: -1, Key: forms.Symbol("KEYWORD", "K")}}, Kids: []api.Core{one, one, node(api.CoreCall, variable(4))}}, "(lambda 1 {2 8 4 -} {4 0 -1 1:KEYWORD:K} (const 2::1) (const 2::1) (call (var 4)))"},
		{api.Core{Op: api.CoreConst, Data: read(t, "#1=(-1/2 #1# \"-*+/<>=%&!\" #2a() . #())")}, "(const 13::1(10::(3::-1/2 14::1 8::-*+/<>=%&~21 12::0~200 11::)))"},
	} {
		if s, e := core.Show(c.c); e != api.OK || s != c.want {
			t.Errorf("Show = %s, %v, want %s", s, e, c.want)
		}
	}
}

func TestP19_3Any(t *testing.T) {
	r := newRandom(3)
	for range 5000 {
		c := r.right(t)
		s, e := core.Show(c)
		if e != api.OK {
			t.Fatalf("Show(%v): %v", c, e)
		}
		back, e := core.Parse(s)
		if e != api.OK || !equal(back, c) {
			t.Fatalf("Parse(%s) = %v, %v", s, back, e)
		}
		// What stands in another text is another tree, or none.
		i := r.IntN(len(s))
		other := s[:i] + r.pick("", " ", "(", ")", "0", "1", "-", "~", "[", "}", ":", "x", "10000") + s[i+r.IntN(2):]
		x, e := core.Parse(other)
		if e != api.OK && e != api.ErrForm || e != api.OK && x.Op != 0 {
			t.Fatalf("Parse(%s) = %v, %v", other, x, e)
		}
		if e == api.OK {
			if again, e := core.Show(x); e != api.OK || again != other {
				t.Fatalf("Show of Parse(%s) = %s, %v", other, again, e)
			}
		}
	}
}

// equal reports whether trees are equal, but for lists that are nil or empty.
func equal(a, b api.Core) bool {
	sameParams := func(x, y api.Param) bool {
		return x.Kind == y.Kind && x.Var == y.Var && x.Given == y.Given && forms.Equal(x.Key, y.Key)
	}
	return a.Op == b.Op && a.N == b.N && slices.Equal(a.Vars, b.Vars) && slices.EqualFunc(a.Syms, b.Syms, forms.Equal) && slices.EqualFunc(a.Pars, b.Pars, sameParams) && forms.Equal(a.Data, b.Data) && slices.EqualFunc(a.Kids, b.Kids, equal)
}

func TestP19_3Parse(t *testing.T) {
	for _, s := range []string{
		"", "(", ")", "()", "progn", "(progn", "(progn))", " (progn)", "(progn) ", "( progn)", "(progn )", "(progn  (progn))", "(progn(progn))", "(PROGN)", "(core)", "(set-special 1:U:X (progn))",
		"(const)", "(const 2::01)", "(const 2::1", "(const 02::1)", "(const +2::1)", "(const 2::)", "(const 2:)", "(const 2)", "(const 8::a b)", "(const 8::~4)", "(const 8::~)", "(const 8::~4g)", "(const 8::~41)", "(const 8::~2D)", "(const 8::~2d)", "(const 8::~FF)", "(const 8::é)", "(const 11::())", "(const 99::)", "(const 1::~ff)", "(const 14::1)", "(const 99999999999999999999::)",
		"(var 0)", "(let [0] (const 2::1) (var 1))", "(let [00] (const 2::1) (var 0))", "(let [-0] (const 2::1) (progn))", "(let [0 0] (progn) (progn) (progn))", "(let [ 0] (progn) (progn))", "(let [0 ] (progn) (progn))", "(let[0] (progn) (progn))", "(let (progn))", "(let [0] (progn))", "(let [10000] (progn) (progn))",
		"(lambda (progn))", "(lambda 2 (progn))", "(lambda 0 {} (progn))", "(lambda 0 {1 0 -1} (progn))", "(lambda 0 {1 0 -1 -} {1 0 -1 -} (progn))", "(lambda 0 {1 0 -1 -}(progn))", "(lambda 0 {1 0 0 -} (progn))", "(lambda 0 {1 0 -1 1:U:K} (progn))", "(lambda 0 {4 0 -1 -} (progn) (progn))", "(lambda 0 {1 0 -1 - } (progn))",
		"(bind [1:COMMON-LISP:T] (progn) (progn))", "(special 1::X)", "(special 2::1)", "(go 0)", "(if (progn) (progn))", "(progn (progn) x)",
	} {
		if c, e := core.Parse(s); e != api.ErrForm || c.Op != 0 {
			t.Errorf("Parse(%s) = %v, %v", s, c, e)
		}
	}
	long := "(progn" + strings.Repeat(" (progn)", 1998) + ")"
	if _, e := core.Parse(long); e != api.OK {
		t.Errorf("Parse of a long text: %v", e)
	}
	fill := 20000 - len("(const 8::)")
	if _, e := core.Parse("(const 8::" + strings.Repeat("a", fill) + ")"); e != api.OK {
		t.Errorf("Parse of the longest text: %v", e)
	}
	for _, s := range []string{"(const 8::" + strings.Repeat("a", fill+1) + ")", strings.Repeat("(", 20001)} {
		if c, e := core.Parse(s); e != api.ErrSize || c.Op != 0 {
			t.Errorf("Parse of a text that is too long: %v", e)
		}
	}
	for _, s := range []string{strings.Repeat("(", 20000), strings.Repeat("(progn ", 2800), "(const " + strings.Repeat("11::(", 3900), strings.Repeat("(progn ", 101) + strings.Repeat(")", 101)} {
		if c, e := core.Parse(s); e != api.ErrForm || c.Op != 0 {
			t.Errorf("Parse of %s..: %v", s[:20], e)
		}
	}
}

func TestP19_4Renamed(t *testing.T) {
	c, e := core.Parse("(let [3] (const 2::1) (lambda 1 {2 7 9 -} (var 3) (block 5 (tagbody [0 4] (var 9) (go 0) (return 5 (set 7 (go 4)))))))")
	if e != api.OK {
		t.Fatal(e)
	}
	given, e := core.Parse("(lambda 0 {2 1 0 -} (progn) (var 0))")
	if e != api.OK {
		t.Fatal(e)
	}
	given, _ = core.Renamed(given, 3)
	if s, _ := core.Show(given); s != "(lambda 0 {2 4 3 -} (progn) (var 3))" {
		t.Errorf("Renamed = %s", s)
	}
	x, e := core.Renamed(c, 10)
	if e != api.OK {
		t.Fatal(e)
	}
	if s, _ := core.Show(x); s != "(let [13] (const 2::1) (lambda 1 {2 17 19 -} (var 13) (block 15 (tagbody [10 14] (var 19) (go 10) (return 15 (set 17 (go 14)))))))" {
		t.Errorf("Renamed = %s", s)
	}
	const most = int(^uint(0) >> 1)
	for _, by := range []int{-1, 9991, -4, 10000, most, -most - 1} {
		if x, e := core.Renamed(c, by); e != api.ErrRange || x.Op != 0 {
			t.Errorf("Renamed by %d: %v, %v", by, x, e)
		}
	}
	for _, by := range []int{0, 9990} {
		if _, e := core.Renamed(c, by); e != api.OK {
			t.Errorf("Renamed by %d: %v", by, e)
		}
	}
	for _, by := range []int{most, -most - 1} {
		if _, e := core.Renamed(node(api.CoreProgn, constant("1")), by); e != api.OK {
			t.Errorf("Renamed of a tree without numbers: %v", e)
		}
	}
}

func TestP19_4Any(t *testing.T) {
	r := newRandom(4)
	var trees []api.Core
	for range 3000 {
		c := r.right(t)
		trees = append(trees, c)
		m, n := r.IntN(3), r.IntN(5)
		x, e := core.Renamed(c, m)
		if e == api.ErrRange {
			continue
		}
		y, f := core.Renamed(x, n)
		z, g := core.Renamed(c, m+n)
		if e != api.OK || f != g || !equal(y, z) {
			t.Fatalf("Renamed(%v) by %d and %d: %v, %v, %v", c, m, n, e, f, g)
		}
		if !core.Same(c, x) || !core.Same(x, c) || !core.Same(c, c) {
			t.Fatalf("%v is not the Same as %v", c, x)
		}
		if back, e := core.Renamed(x, -m); e != api.OK || !equal(back, c) {
			t.Fatalf("Renamed(%v) back: %v", x, e)
		}
	}
	for i, a := range trees[:150] {
		for _, b := range trees[:150] {
			if core.Same(a, b) != core.Same(b, a) {
				t.Fatalf("Same of %v and %v", a, b)
			}
			for _, c := range trees[i : i+3] {
				if core.Same(a, b) && core.Same(b, c) && !core.Same(a, c) {
					t.Fatalf("Same of %v, %v and %v", a, b, c)
				}
			}
		}
	}
}

func TestP19_4Same(t *testing.T) {
	for _, x := range []struct {
		a, b string
		same bool
	}{
		{"(progn)", "(progn)", true},
		{"(progn)", "(progn (progn))", false},
		{"(const 2::1)", "(const 2::2)", false},
		{"(const 13::0(10::(2::1 14::0)))", "(const 13::1(10::(2::1 14::1)))", false},
		{"(special 1:U:X)", "(function 1:U:X)", false},
		{"(let [0] (progn) (var 0))", "(let [5] (progn) (var 5))", true},
		{"(let [0 1] (progn) (progn) (var 0))", "(let [1 0] (progn) (progn) (var 1))", true},
		{"(let [0 1] (progn) (progn) (var 0))", "(let [0 1] (progn) (progn) (var 1))", false},
		{"(let [0] (progn) (var 0))", "(let [0 1] (progn) (progn) (var 0))", false},
		{"(let [0] (progn) (let [1] (progn) (var 0)))", "(let [1] (progn) (let [0] (progn) (var 0)))", false},
		{"(let [0] (progn) (let [1] (progn) (var 0)))", "(let [1] (progn) (let [0] (progn) (var 1)))", true},
		{"(let [0 1] (progn) (progn) (set 0 (progn)))", "(let [0 1] (progn) (progn) (set 1 (progn)))", false},
		{"(let [0] (progn) (let [1] (progn) (set 0 (var 1))))", "(let [2] (progn) (let [3] (progn) (set 2 (var 3))))", true},
		{"(block 0 (block 1 (return 0 (progn))))", "(block 1 (block 0 (return 1 (progn))))", true},
		{"(block 0 (block 1 (return 0 (progn))))", "(block 0 (block 1 (return 1 (progn))))", false},
		{"(tagbody [0 1] (progn) (go 0) (go 1))", "(tagbody [8 7] (progn) (go 8) (go 7))", true},
		{"(tagbody [0 1] (progn) (go 0) (go 1))", "(tagbody [0 1] (progn) (go 1) (go 0))", false},
		{"(let [0] (progn) (block 0 (tagbody [0] (return 0 (var 0)) (go 0))))", "(let [1] (progn) (block 2 (tagbody [3] (return 2 (var 1)) (go 3))))", true},
		{"(lambda 0 (progn))", "(lambda 1 (progn))", false},
		{"(lambda 0 {2 0 1 -} (progn) (var 1))", "(lambda 0 {2 1 0 -} (progn) (var 0))", true},
		{"(lambda 0 {2 0 1 -} (progn) (var 0))", "(lambda 0 {2 0 -1 -} (progn) (var 0))", false},
		{"(lambda 0 {1 0 -1 -} (var 0))", "(lambda 0 {3 0 -1 -} (var 0))", false},
		{"(lambda 0 {4 0 -1 1:U:A} (progn) (var 0))", "(lambda 0 {4 0 -1 1:U:B} (progn) (var 0))", false},
		{"(lambda 0 {1 0 -1 -} {1 1 -1 -} (var 0))", "(lambda 0 {1 1 -1 -} {1 0 -1 -} (var 0))", false},
		{"(bind [1:U:A 1:U:B] (progn) (progn) (progn))", "(bind [1:U:B 1:U:A] (progn) (progn) (progn))", false},
		{"(labels [0] (lambda 0 (var 0)) (progn))", "(let [0] (lambda 0 (progn)) (progn))", false},
	} {
		a, e := core.Parse(x.a)
		b, f := core.Parse(x.b)
		if e != api.OK || f != api.OK {
			t.Fatalf("%s: %v; %s: %v", x.a, e, x.b, f)
		}
		if core.Same(a, b) != x.same || core.Same(b, a) != x.same {
			t.Errorf("Same of %s and %s is not %v", x.a, x.b, x.same)
		}
	}
}

// randomForm returns a random expanded form, which may be wrong.
func (r *random) form(depth int) string {
	symbol := func() string { return r.pick("a", "b", "c", "s", "u::a", "nil", "t", ":k", "#:g") }
	if depth <= 0 {
		return r.pick("1", "\"x\"", "#\\a", "'(1 . 2)", "a", "b", "c", "s", "u::a", "nil", ":k", "#'f", "(go a)", "(return-from b)")
	}
	f := func() string { return r.form(depth - 1) }
	body := func() string {
		s := r.pick("", "", "", "(declare (special a)) ", "(declare (special b c) (ignore x)) ", "(declare 5) ")
		for range r.IntN(3) {
			s += f() + " "
		}
		return s
	}
	bindings := func() string {
		s := ""
		for range r.IntN(3) {
			s += r.pick("a ", "(b) ", "("+r.pick("a", "b", "s")+" "+f()+") ", "("+symbol()+" 1)")
		}
		return "(" + s + ")"
	}
	list := func() string {
		return r.pick("()", "(a)", "(a &optional (b "+f()+" c))", "(&rest s)", "(&key a (s "+f()+"))", "(a &aux (b "+f()+"))", "(a . b)", "(&key ((:x b) nil) &allow-other-keys)")
	}
	switch r.IntN(16) {
	case 0:
		return "(let " + bindings() + " " + body() + ")"
	case 1:
		return "(let* " + bindings() + " " + body() + ")"
	case 2:
		return "(setq " + symbol() + " " + f() + ")"
	case 3:
		return "#'(lambda " + list() + " " + body() + ")"
	case 4:
		return "((lambda " + list() + " " + body() + ") " + f() + ")"
	case 5:
		return "(" + r.pick("flet", "labels") + " ((f " + list() + " " + body() + ") (" + symbol() + " () " + f() + ")) " + body() + " (f))"
	case 6:
		return "(block " + symbol() + " " + body() + ")"
	case 7:
		return "(block b (return-from b " + f() + "))"
	case 8:
		return "(tagbody a " + f() + " " + r.pick("b", "1", "a") + " (go a) " + f() + ")"
	case 9:
		return "(" + r.pick("catch", "throw", "unwind-protect", "multiple-value-prog1", "the") + " " + f() + " " + f() + ")"
	case 10:
		return "(progv " + f() + " " + f() + " " + f() + ")"
	case 11:
		return "(if " + f() + " " + f() + ")"
	case 12:
		return "(locally " + body() + ")"
	case 13:
		return "(" + symbol() + " " + f() + ")"
	}
	return "(f " + f() + " " + f() + ")"
}

func TestP19_2Any(t *testing.T) {
	r := newRandom(2)
	counts := map[api.Errno]int{}
	for range 20000 {
		s := r.form(1 + r.IntN(4))
		c, e := core.Convert(read(t, s), []api.Form{lisp("S")})
		counts[e]++
		if e != api.OK {
			if c.Op != 0 {
				t.Fatalf("Convert(%s) = %v, %v", s, c, e)
			}
			continue
		}
		if code := core.Check(c); code != api.OK || len(core.Free(c)) > 0 || !model(c) {
			t.Fatalf("Convert(%s) = %v: %v, %v", s, c, code, core.Free(c))
		}
		// Numbers are given from 0 on.
		for kind, n := range most(c) {
			if n != len(bound(c)[kind])-1 {
				t.Fatalf("Convert(%s) has the greatest number %d of the kind %d", s, n, kind)
			}
		}
	}
	if counts[api.OK] < 5000 || counts[api.ErrForm] == 0 || counts[core.ErrScope] == 0 || counts[core.ErrDeclare] == 0 || counts[api.ErrTwice] == 0 {
		t.Errorf("errors: %v", counts)
	}
}

// bound returns all numbers that are bound in a tree, by their kinds.
func bound(c api.Core) [3][]int {
	var out [3][]int
	for _, path := range paths(c, nil) {
		for kind, l := range modelBound(at(c, path)) {
			out[kind] = append(out[kind], l...)
		}
	}
	return out
}

func most(c api.Core) [3]int {
	var out [3]int
	for kind, l := range bound(c) {
		out[kind] = slices.Max(append(l, -1))
	}
	return out
}

// Nothing that is returned shares memory with what was handed in.
func TestP19_1Memory(t *testing.T) {
	f := read(t, "(let ((x '(1 2))) #'(lambda (&key ((k y) '(3))) (list x y)))")
	c, _ := core.Convert(f, nil)
	before, _ := core.Show(c)
	f.Kids[1].Kids[0].Kids[1].Kids[1].Kids[0].Text = "9"
	x, _ := core.Renamed(c, 0)
	x.Vars[0] = 77
	x.Kids[0].Data.Kids[0].Text = "8"
	x.Kids[1].Pars[0].Key.Text = "OTHER"
	x.Kids[1].Kids[1].Kids[0].N = 5
	if after, _ := core.Show(c); after != before {
		t.Errorf("%s was changed to %s", before, after)
	}
}
