package core

import (
	"commonform/api"
	"commonform/forms"
)

// Check returns OK for a right core tree.
func Check(c api.Core) api.Errno {
	if _, ok := measured(c); !ok {
		return api.ErrSize
	}
	var k checker
	for i := range k {
		k[i] = scopes{bound: map[int]bool{}, open: map[int]bool{}}
	}
	if !k.node(c) {
		return api.ErrForm
	}
	return api.OK
}

// Kinds of numbers.
const (
	variables = iota
	blocks
	tags
	kinds
)

// scopes has the numbers of a kind that were bound, and those of them that are open, since a node stands in their scope.
type scopes struct{ bound, open map[int]bool }

// checker looks at a tree, with the scopes of each kind of numbers.
type checker [kinds]scopes

// bind opens numbers that were not bound, and reports whether they are right.
func (s scopes) bind(numbers ...int) bool {
	for _, n := range numbers {
		if n < 0 || n > maxNumber || s.bound[n] {
			return false
		}
		s.bound[n], s.open[n] = true, true
	}
	return true
}

func (s scopes) close(numbers ...int) {
	for _, n := range numbers {
		delete(s.open, n)
	}
}

// node reports whether a node, and what stands in it, is right.
func (k checker) node(c api.Core) bool {
	if !fits(c) {
		return false
	}
	last := len(c.Kids) - 1
	switch c.Op {
	case api.CoreVar, api.CoreSet:
		return k[variables].open[c.N] && k.all(c.Kids)
	case api.CoreLet:
		return k.all(c.Kids[:last]) && k.within(variables, c.Vars, c.Kids[last:])
	case api.CoreLabels:
		for _, kid := range c.Kids[:last] {
			if kid.Op != api.CoreLambda {
				return false
			}
		}
		return k.within(variables, c.Vars, c.Kids)
	case api.CoreLambda:
		return k.lambda(c)
	case api.CoreBlock:
		return k.within(blocks, []int{c.N}, c.Kids)
	case api.CoreReturn:
		return k[blocks].open[c.N] && k.all(c.Kids)
	case api.CoreTagbody:
		return k.within(tags, c.Vars, c.Kids)
	case api.CoreGo:
		return k[tags].open[c.N]
	}
	return k.all(c.Kids)
}

func (k checker) all(kids []api.Core) bool {
	for _, kid := range kids {
		if !k.node(kid) {
			return false
		}
	}
	return true
}

// within looks at kids in the scope of numbers.
func (k checker) within(kind int, numbers []int, kids []api.Core) bool {
	defer k[kind].close(numbers...)
	return k[kind].bind(numbers...) && k.all(kids)
}

// lambda looks at a lambda, whose parameters open one by one.
func (k checker) lambda(c api.Core) bool {
	v := k[variables]
	rest := c.Kids
	for _, p := range c.Pars {
		if hasInit(p) {
			if !k.node(rest[0]) {
				return false
			}
			rest = rest[1:]
		}
		numbers := []int{p.Var}
		if p.Given != -1 {
			numbers = append(numbers, p.Given)
		}
		defer v.close(numbers...)
		if !v.bind(numbers...) {
			return false
		}
	}
	return k.all(rest)
}

// fits reports whether the fields of a node fit its op.
func fits(c api.Core) bool {
	s, ok := shapeOf(c.Op)
	if !ok || !s.has("N") && c.N != 0 || !s.has("V") && len(c.Vars) > 0 || !s.has("S") && len(c.Syms) > 0 || !s.has("P") && len(c.Pars) > 0 {
		return false
	}
	if c.Op == api.CoreLambda && (c.N < 0 || c.N > 1) {
		return false
	}
	least, most := s.least, s.most
	if s.has("VSP") {
		least = len(c.Vars) + len(c.Syms) + inits(c.Pars) + 1
		most = least
	}
	n := len(c.Kids)
	return n >= least && (n <= most || most < 0) && s.fitsData(c.Data) && areNames(c.Syms) && areParams(c.Pars)
}

func (s shape) fitsData(f api.Form) bool {
	switch {
	case s.has("F"):
		return isName(f)
	case s.has("D"):
		return forms.Check(f) == api.OK
	}
	return isZero(f)
}

func isZero(f api.Form) bool { return forms.Equal(f, api.Form{}) }

// isName reports whether a form is a symbol with a home that may have a value or a function.
func isName(f api.Form) bool {
	return isSymbol(f) && f.Home != "" && !forms.IsNil(f) && !forms.Is(f, commonLisp, "T")
}

func isSymbol(f api.Form) bool { return f.Kind == api.FormSymbol && forms.Check(f) == api.OK }

// areNames reports whether all forms are such symbols, none twice.
func areNames(l []api.Form) bool {
	for i, f := range l {
		if !isName(f) || contains(l[:i], f) {
			return false
		}
	}
	return true
}

func contains(l []api.Form, f api.Form) bool {
	for _, x := range l {
		if forms.Equal(x, f) {
			return true
		}
	}
	return false
}

// areParams reports whether parameters are right, but for their numbers.
func areParams(l []api.Param) bool {
	var keys []api.Form
	last := api.ParamRequired
	for _, p := range l {
		if p.Kind < last || p.Kind > api.ParamKey || p.Kind == api.ParamRest && last == p.Kind {
			return false
		}
		last = p.Kind
		if !hasInit(p) && p.Given != -1 {
			return false
		}
		if p.Kind != api.ParamKey {
			if !isZero(p.Key) {
				return false
			}
			continue
		}
		if !isSymbol(p.Key) || contains(keys, p.Key) {
			return false
		}
		keys = append(keys, p.Key)
	}
	return true
}
