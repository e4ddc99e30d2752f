package forms

import (
	"cmp"
	"slices"

	"commonform/api"
)

// Shared returns the nodes with identity that several places have.
func Shared(g []Node) ([]int, api.Errno) {
	if e := CheckGraph(g); e != api.OK {
		return nil, e
	}
	var out []int
	for i, n := range places(g) {
		if n > 1 && hasIdentity(g[i].Kind) {
			out = append(out, i)
		}
	}
	return out, api.OK
}

// Circular reports whether a node is met from its own parts.
func Circular(g []Node, i int) (bool, api.Errno) {
	if e := checkIndices(g, i); e != api.OK {
		return false, e
	}
	for k := range met(g, g[i].Kids...) {
		if k == i {
			return true, api.OK
		}
	}
	return false, api.OK
}

// Cars returns the elements of a list, and its last cdr.
func Cars(g []Node, i int) (elements []int, last int, e api.Errno) {
	if e := checkIndices(g, i); e != api.OK {
		return nil, 0, e
	}
	seen := map[int]bool{}
	for ; g[i].Kind == api.FormCons; i = g[i].Kids[1] {
		if seen[i] {
			return nil, 0, api.ErrOrder
		}
		seen[i] = true
		elements = append(elements, g[i].Kids[0])
	}
	return elements, i, api.OK
}

// relation tells by the kinds which nodes with equal texts agree by value, and which ones agree if their parts do; these must be as many.
type relation struct{ byValue, byParts func(kind int) bool }

func oneOf(kinds ...int) func(kind int) bool {
	return func(kind int) bool { return slices.Contains(kinds, kind) }
}

func eql() relation {
	return relation{
		oneOf(api.FormInt, api.FormRatio, api.FormSingle, api.FormDouble, api.FormChar),
		oneOf(api.FormComplex),
	}
}

func alike() relation {
	return relation{
		oneOf(api.FormInt, api.FormRatio, api.FormSingle, api.FormDouble, api.FormChar, api.FormString, api.FormBits),
		oneOf(api.FormComplex, api.FormCons),
	}
}

func similar() relation {
	return relation{alike().byValue, oneOf(api.FormComplex, api.FormCons, api.FormVector, api.FormArray)}
}

// Eql reports whether two nodes are eql.
func Eql(g []Node, i, k int) (bool, api.Errno) { return related(g, i, k, eql()) }

// Alike reports whether two nodes are equal in Lisp's sense.
func Alike(g []Node, i, k int) (bool, api.Errno) { return related(g, i, k, alike()) }

// Similar reports whether two nodes are similar, whatever they share.
func Similar(g []Node, i, k int) (bool, api.Errno) { return related(g, i, k, similar()) }

// related looks for a pair of nodes that would have to be in the greatest relation, and does not agree. Pairs that were asked for are marked, so that circles end.
func related(g []Node, i, k int, r relation) (bool, api.Errno) {
	if e := checkIndices(g, i, k); e != api.OK {
		return false, e
	}
	marks := map[[2]int]bool{}
	var work [][2]int
	ask := func(i, k int) {
		pair := [2]int{min(i, k), max(i, k)}
		if i != k && !marks[pair] {
			marks[pair] = true
			work = append(work, pair)
		}
	}
	ask(i, k)
	for len(work) > 0 {
		last := len(work) - 1
		a, b := g[work[last][0]], g[work[last][1]]
		work = work[:last]
		if a.Kind != b.Kind || a.Text != b.Text || len(a.Kids) != len(b.Kids) {
			return false, api.OK
		}
		if !r.byValue(a.Kind) && !r.byParts(a.Kind) {
			return false, api.OK
		}
		for n, kid := range a.Kids {
			ask(kid, b.Kids[n])
		}
	}
	return true, api.OK
}

// Coalesce returns the graph in which similar nodes are one.
func Coalesce(g []Node) ([]Node, api.Errno) {
	if e := CheckGraph(g); e != api.OK {
		return nil, e
	}
	first := map[int]int{} // of each class
	class := classes(g)
	for i, c := range class {
		if _, known := first[c]; !known {
			first[c] = i
		}
	}
	merged := slices.Clone(g)
	for i, n := range g {
		kids := slices.Clone(n.Kids)
		for k, kid := range kids {
			if hasIdentity(g[kid].Kind) {
				kids[k] = first[class[kid]]
			}
		}
		merged[i].Kids = kids
	}
	return part(merged, 0), api.OK
}

// partition divides the nodes of a graph into classes, until similar nodes are in one class, and no others.
type partition struct {
	g       []Node
	class   []int   // of each node
	members [][]int // of each class
	parents [][]int // of each node: those of which it is a part
}

// classes returns a number for each node, equal for similar ones. Nodes that are alike but for their parts begin in one class; a class is divided by the classes of the parts. Behind the first round only those nodes are looked at whose parts came to other classes.
func classes(g []Node) []int {
	type look struct {
		kind, kids int
		text, home string
	}
	known := map[look]int{}
	p := partition{g: g, class: make([]int, len(g)), parents: make([][]int, len(g))}
	var asked []int
	for i, n := range g {
		c := numberOf(known, look{n.Kind, len(n.Kids), n.Text, n.Home})
		if c == len(p.members) {
			p.members = append(p.members, nil)
		}
		p.class[i] = c
		p.members[c] = append(p.members[c], i)
		for _, kid := range n.Kids {
			p.parents[kid] = append(p.parents[kid], i)
		}
		asked = append(asked, i)
	}
	for len(asked) > 0 {
		asked = p.round(asked)
	}
	return p.class
}

// round divides the classes of the nodes that are asked for, and returns the parents of those that came to another class. The greatest part of a class stays, so that few nodes move.
func (p *partition) round(asked []int) []int {
	groups := map[int][]int{}
	var order []int
	for _, i := range asked {
		c := p.class[i]
		if groups[c] == nil {
			order = append(order, c)
		}
		groups[c] = append(groups[c], i)
	}
	next := slices.Clone(p.class)
	var moved []int
	codes := map[[2]int]int{}
	for _, c := range order {
		parts := p.divide(c, groups[c], codes)
		greatest := slices.MaxFunc(parts, func(a, b []int) int { return cmp.Compare(len(a), len(b)) })
		p.members[c] = greatest
		for _, l := range parts {
			if l[0] == greatest[0] {
				continue
			}
			for _, i := range l {
				next[i] = len(p.members)
			}
			p.members = append(p.members, l)
			moved = append(moved, l...)
		}
	}
	p.class = next
	return p.parentsOf(moved)
}

// divide returns the parts of a class that have equal codes; those of its nodes that are not asked for have one code.
func (p *partition) divide(c int, asked []int, codes map[[2]int]int) [][]int {
	isAsked := map[int]bool{}
	for _, i := range asked {
		isAsked[i] = true
	}
	known := map[int]int{}
	var parts [][]int
	for _, i := range p.members[c] {
		if !isAsked[i] && len(parts) > 0 {
			parts[0] = append(parts[0], i)
		} else if !isAsked[i] {
			numberOf(known, p.code(i, codes))
			parts = [][]int{{i}}
		}
	}
	for _, i := range asked {
		at := numberOf(known, p.code(i, codes))
		if at == len(parts) {
			parts = append(parts, nil)
		}
		parts[at] = append(parts[at], i)
	}
	return parts
}

// code returns a number for the classes of the parts of a node, one after the other; codes has the numbers of all beginnings.
func (p *partition) code(i int, codes map[[2]int]int) int {
	code := -1
	for _, kid := range p.g[i].Kids {
		code = numberOf(codes, [2]int{code, p.class[kid]})
	}
	return code
}

// parentsOf returns the nodes that have one of some nodes as a part, each one once.
func (p *partition) parentsOf(nodes []int) []int {
	seen := map[int]bool{}
	var out []int
	for _, i := range nodes {
		for _, parent := range p.parents[i] {
			if !seen[parent] {
				seen[parent] = true
				out = append(out, parent)
			}
		}
	}
	return out
}

// numberOf returns the number of a key; new keys get the next one.
func numberOf[K comparable](known map[K]int, key K) int {
	n, ok := known[key]
	if !ok {
		n = len(known)
		known[key] = n
	}
	return n
}
