package core

import (
	"slices"

	"commonform/api"
	"commonform/forms"
)

// renumbered returns a copy of a tree, with numbers that a function returns for those of variables, blocks and tags.
func renumbered(c api.Core, by func(n int) int) api.Core {
	out := api.Core{Op: c.Op, N: c.N, Data: forms.Dotted(nil, c.Data)}
	if s, _ := shapeOf(c.Op); s.has("N") && c.Op != api.CoreLambda {
		out.N = by(c.N)
	}
	for _, n := range c.Vars {
		out.Vars = append(out.Vars, by(n))
	}
	for _, f := range c.Syms {
		out.Syms = append(out.Syms, forms.Dotted(nil, f))
	}
	for _, p := range c.Pars {
		p.Var = by(p.Var)
		if p.Given >= 0 {
			p.Given = by(p.Given)
		}
		p.Key = forms.Dotted(nil, p.Key)
		out.Pars = append(out.Pars, p)
	}
	for _, kid := range c.Kids {
		out.Kids = append(out.Kids, renumbered(kid, by))
	}
	return out
}

// Renamed returns a tree with greater numbers.
func Renamed(c api.Core, by int) (api.Core, api.Errno) {
	if Check(c) != api.OK {
		return api.Core{}, api.ErrForm
	}
	isRight := true
	out := renumbered(c, func(n int) int {
		if by < -n || by > maxNumber-n { // a sum might be too great for an int
			isRight = false
			return n
		}
		return n + by
	})
	if !isRight {
		return api.Core{}, api.ErrRange
	}
	return out, api.OK
}

// Same reports whether two trees differ in numbers alone.
func Same(a, b api.Core) bool {
	if Check(a) != api.OK || Check(b) != api.OK {
		return false
	}
	var p pairing
	for i := range p {
		p[i] = map[int]int{}
	}
	return p.nodes(a, b)
}

// pairing has the numbers of one tree by those of another one, for each kind of numbers. Each number of a right tree is bound just once, and ahead of its uses; so no two get the same one.
type pairing [kinds]map[int]int

// bind pairs numbers, and reports whether there are as many.
func (p pairing) bind(kind int, a, b []int) bool {
	if len(a) != len(b) {
		return false
	}
	for i, n := range a {
		p[kind][n] = b[i]
	}
	return true
}

func (p pairing) nodes(a, b api.Core) bool {
	if a.Op != b.Op || len(a.Kids) != len(b.Kids) || !forms.Equal(a.Data, b.Data) || !slices.EqualFunc(a.Syms, b.Syms, forms.Equal) {
		return false
	}
	switch a.Op {
	case api.CoreVar, api.CoreSet:
		return p[variables][a.N] == b.N && p.kids(a, b)
	case api.CoreReturn:
		return p[blocks][a.N] == b.N && p.kids(a, b)
	case api.CoreGo:
		return p[tags][a.N] == b.N
	case api.CoreBlock:
		return p.bind(blocks, []int{a.N}, []int{b.N}) && p.kids(a, b)
	case api.CoreTagbody:
		return p.bind(tags, a.Vars, b.Vars) && p.kids(a, b)
	case api.CoreLet, api.CoreLabels:
		return p.bind(variables, a.Vars, b.Vars) && p.kids(a, b)
	case api.CoreLambda:
		return a.N == b.N && p.params(a.Pars, b.Pars) && p.kids(a, b)
	}
	return p.kids(a, b)
}

func (p pairing) kids(a, b api.Core) bool {
	return slices.EqualFunc(a.Kids, b.Kids, p.nodes)
}

func (p pairing) params(a, b []api.Param) bool {
	return slices.EqualFunc(a, b, func(x, y api.Param) bool {
		p[variables][x.Var] = y.Var
		if x.Kind != y.Kind || !forms.Equal(x.Key, y.Key) || (x.Given < 0) != (y.Given < 0) {
			return false
		}
		if x.Given >= 0 {
			p[variables][x.Given] = y.Given
		}
		return true
	})
}
