package forms

import (
	"iter"
	"slices"
	"strconv"

	"commonform/api"
)

// Node is an object of a graph: its kind, its text and home as in a form, and the indices of its parts; a cons has two, its car and its cdr.
type Node struct {
	Kind       int
	Text, Home string
	Kids       []int
}

// Nodes returns the graph of a form.
func Nodes(f api.Form) ([]Node, api.Errno) {
	if e := Check(f); e != api.OK {
		return nil, e
	}
	m := maker{symbols: map[[2]string]int{}, places: map[string]int{}, labels: labelsOf(f)}
	m.object(f)
	if len(m.nodes) > api.MaxForm {
		return nil, api.ErrSize
	}
	return m.nodes, api.OK
}

// maker makes the graph of a form; places has the nodes of the labels that were met.
type maker struct {
	nodes   []Node
	symbols map[[2]string]int
	places  map[string]int
	labels  map[string]label
}

// object returns the node of the object of a form.
func (m *maker) object(f api.Form) int {
	switch f.Kind {
	case api.FormRef:
		if l := m.labels[f.Text]; !hasIdentity(l.kid.Kind) {
			return m.object(l.kid)
		}
		return m.places[f.Text]
	case api.FormLabel:
		// The kid may refer to itself, so its place has to be known ahead of it.
		m.places[f.Text] = len(m.nodes)
		return m.object(f.Kids[0])
	case api.FormSymbol:
		return m.symbol(f)
	case api.FormCons:
		return m.pairs(f.Kids)
	}
	at := m.add(f.Kind, f.Text, f.Home)
	var kids []int
	for _, kid := range f.Kids {
		kids = append(kids, m.object(kid))
	}
	m.nodes[at].Kids = kids
	return at
}

func (m *maker) add(kind int, text, home string) int {
	m.nodes = append(m.nodes, Node{Kind: kind, Text: text, Home: home})
	return len(m.nodes) - 1
}

func (m *maker) symbol(f api.Form) int {
	name := [2]string{f.Home, f.Text}
	at, known := m.symbols[name]
	if !known {
		at = m.add(f.Kind, f.Text, f.Home)
		m.symbols[name] = at
	}
	return at
}

// pairs returns the first one of the conses of a list; the last one of kids is the tail.
func (m *maker) pairs(kids []api.Form) int {
	if len(kids) == 1 {
		return m.object(kids[0])
	}
	at := m.add(api.FormCons, "", "")
	car := m.object(kids[0])
	cdr := m.pairs(kids[1:])
	m.nodes[at].Kids = []int{car, cdr}
	return at
}

// met walks the nodes that are met from some nodes, in their order, each one once.
func met(g []Node, from ...int) iter.Seq[int] {
	return func(yield func(int) bool) {
		seen := make([]bool, len(g))
		var visit func(i int) bool
		visit = func(i int) bool {
			if seen[i] {
				return true
			}
			seen[i] = true
			if !yield(i) {
				return false
			}
			for _, kid := range g[i].Kids {
				if !visit(kid) {
					return false
				}
			}
			return true
		}
		for _, i := range from {
			if !visit(i) {
				return
			}
		}
	}
}

// CheckGraph returns the error of a graph.
func CheckGraph(g []Node) api.Errno {
	if len(g) == 0 || len(g) > api.MaxForm {
		return api.ErrForm
	}
	for _, n := range g {
		if !rightNode(g, n) {
			return api.ErrForm
		}
	}
	if !rightPlaces(g) {
		return api.ErrForm
	}
	next := 0
	for i := range met(g, 0) {
		if i != next {
			return api.ErrForm
		}
		next++
	}
	if next != len(g) {
		return api.ErrForm
	}
	return api.OK
}

// rightNode looks at a node and its kids, but not at how often they occur.
func rightNode(g []Node, n Node) bool {
	if n.Kind < api.FormSymbol || n.Kind > api.FormArray || !rightAlone(n.Kind, n.Text, n.Home, len(n.Kids)) {
		return false
	}
	for _, kid := range n.Kids {
		if kid < 0 || kid >= len(g) {
			return false
		}
	}
	switch n.Kind {
	case api.FormCons:
		return len(n.Kids) == 2
	case api.FormComplex:
		re, im := g[n.Kids[0]], g[n.Kids[1]]
		return rightParts(re.Kind, im.Kind, im.Text)
	}
	return true
}

// rightPlaces reports whether equal symbols are one node, and each number and each character has just one place.
func rightPlaces(g []Node) bool {
	symbols := map[[2]string]bool{}
	count := places(g)
	for i, n := range g {
		switch {
		case n.Kind == api.FormSymbol:
			name := [2]string{n.Home, n.Text}
			if symbols[name] {
				return false
			}
			symbols[name] = true
		case !hasIdentity(n.Kind) && count[i] != 1:
			return false
		}
	}
	return true
}

// places counts the places of each node: being a kid is one, each time, and being the first node is one.
func places(g []Node) []int {
	count := make([]int, len(g))
	count[0] = 1
	for _, n := range g {
		for _, kid := range n.Kids {
			count[kid]++
		}
	}
	return count
}

// checkIndices returns the error of a graph, or that of indices.
func checkIndices(g []Node, indices ...int) api.Errno {
	if e := CheckGraph(g); e != api.OK {
		return e
	}
	for _, i := range indices {
		if i < 0 || i >= len(g) {
			return api.ErrArg
		}
	}
	return api.OK
}

// Part returns the graph of a node and all that it has.
func Part(g []Node, i int) ([]Node, api.Errno) {
	if e := checkIndices(g, i); e != api.OK {
		return nil, e
	}
	return part(g, i), api.OK
}

// part returns what is met from a node, with new indices.
func part(g []Node, i int) []Node {
	order := slices.Collect(met(g, i))
	place := make([]int, len(g))
	for at, old := range order {
		place[old] = at
	}
	out := make([]Node, len(order))
	for at, old := range order {
		n := g[old]
		n.Kids = slices.Clone(n.Kids)
		for k, kid := range n.Kids {
			n.Kids[k] = place[kid]
		}
		out[at] = n
	}
	return out
}

// Build returns the normal form of a graph.
func Build(g []Node) (api.Form, api.Errno) {
	if e := CheckGraph(g); e != api.OK {
		return api.Form{}, e
	}
	b := builder{g: g, count: places(g), numbers: map[int]string{}, room: api.MaxForm}
	out := b.form(0)
	if tooLarge(out) {
		return api.Form{}, api.ErrSize // so many labels that there are not enough numbers need more nodes
	}
	return out, api.OK
}

// builder makes the form of a graph; numbers has the labels of the nodes that were met and have several places. Without room for a further node it goes on no deeper: the form is too large in any case.
type builder struct {
	g       []Node
	count   []int
	numbers map[int]string
	room    int
}

func (b *builder) shared(i int) bool { return hasIdentity(b.g[i].Kind) && b.count[i] > 1 }

func (b *builder) form(i int) api.Form {
	b.room--
	if b.room < 0 {
		return api.Form{}
	}
	if number, known := b.numbers[i]; known {
		return api.Form{Kind: api.FormRef, Text: number}
	}
	if !b.shared(i) {
		return b.object(i)
	}
	number := strconv.Itoa(len(b.numbers))
	b.numbers[i] = number
	b.room--
	return api.Form{Kind: api.FormLabel, Text: number, Kids: []api.Form{b.object(i)}}
}

func (b *builder) object(i int) api.Form {
	n := b.g[i]
	out := api.Form{Kind: n.Kind, Text: n.Text, Home: n.Home}
	for n.Kind == api.FormCons {
		out.Kids = append(out.Kids, b.form(n.Kids[0]))
		cdr := n.Kids[1]
		n = b.g[cdr]
		if n.Kind != api.FormCons || b.shared(cdr) {
			out.Kids = append(out.Kids, b.form(cdr))
			return out
		}
	}
	for _, kid := range n.Kids {
		out.Kids = append(out.Kids, b.form(kid))
	}
	return out
}
