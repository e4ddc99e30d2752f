package core

import (
	"commonform/api"
	"commonform/forms"
	"commonform/lambda"
)

// body is a body: the variables that its declarations make special, and its forms.
type body struct{ specials, forms []api.Form }

// bodyOf reads the declarations of a body.
func bodyOf(l []api.Form) body {
	var out body
	for len(l) > 0 && isDeclaration(l[0]) {
		specs, ok := forms.Items(l[0])
		if !ok {
			fail(ErrDeclare)
		}
		for _, spec := range specs[1:] {
			out.declare(spec)
		}
		l = l[1:]
	}
	out.forms = l
	return out
}

func isDeclaration(f api.Form) bool {
	return f.Kind == api.FormCons && forms.Is(f.Kids[0], commonLisp, "DECLARE")
}

func (b *body) declare(spec api.Form) {
	l, ok := forms.Items(spec)
	if !ok || len(l) == 0 || l[0].Kind != api.FormSymbol {
		fail(ErrDeclare)
	}
	if !forms.Is(l[0], commonLisp, "SPECIAL") {
		return
	}
	for _, v := range l[1:] {
		if !isVariable(v) {
			fail(ErrDeclare)
		}
		b.specials = append(b.specials, v)
	}
}

// isSpecial reports whether a variable that is bound around a body is special.
func (c *converter) isSpecial(v api.Form, b body) bool {
	return contains(c.specials, v) || contains(b.specials, v)
}

// checkSpecials fails if a variable that is bound is special, but has no home.
func (c *converter) checkSpecials(bound []api.Form, b body) {
	for _, v := range bound {
		if c.isSpecial(v, b) {
			global(v)
		}
	}
}

// binding is a variable and its init form.
type binding struct{ name, init api.Form }

// bindings reads the bindings of a LET, or a LET*.
func bindings(f api.Form, mayRepeat bool) ([]binding, []api.Form) {
	l, ok := forms.Items(f)
	need(ok)
	var out []binding
	var names []api.Form
	for _, x := range l {
		parts := []api.Form{x}
		if x.Kind != api.FormSymbol {
			parts, _ = forms.Items(x)
		}
		need(len(parts) > 0 && len(parts) <= 2 && isVariable(parts[0]))
		if contains(names, parts[0]) && !mayRepeat {
			fail(api.ErrTwice)
		}
		names = append(names, parts[0])
		parts = append(parts, forms.Nil())
		out = append(out, binding{parts[0], parts[1]})
	}
	return out, names
}

func (c *converter) locally(l []api.Form, s *scope) api.Core {
	b := bodyOf(l)
	return c.progn(b.forms, s.special(b.specials...))
}

func (c *converter) let(l []api.Form, s *scope) api.Core {
	need(len(l) > 0)
	bs, names := bindings(l[0], false)
	b := bodyOf(l[1:])
	c.checkSpecials(names, b)
	var inits []api.Core
	isAnyLexical := false
	for _, x := range bs {
		inits = append(inits, c.form(x.init, s))
		isAnyLexical = isAnyLexical || !c.isSpecial(x.name, b)
	}
	inner := s
	var vars []int
	var specials specialBindings
	for i, x := range bs {
		value := inits[i]
		if isAnyLexical {
			n := c.number(variables)
			vars = append(vars, n)
			inner = inner.with(variables, x.name, n)
			value = variable(n)
		}
		if c.isSpecial(x.name, b) {
			inner = specials.add(x.name, value, inner)
		}
	}
	out := specials.around(c.progn(b.forms, inner.special(b.specials...)))
	if !isAnyLexical {
		return out
	}
	return api.Core{Op: api.CoreLet, Vars: vars, Kids: append(inits, out)}
}

// specialBindings has the symbols and the values of a CoreBind.
type specialBindings struct {
	syms   []api.Form
	values []api.Core
}

// add adds a symbol, and returns the scope in which it is special.
func (x *specialBindings) add(name api.Form, value api.Core, s *scope) *scope {
	x.syms = append(x.syms, name)
	x.values = append(x.values, value)
	return s.special(name)
}

// around returns the CoreBind around a tree; the tree itself if there are no symbols.
func (x *specialBindings) around(inner api.Core) api.Core {
	if len(x.syms) == 0 {
		return inner
	}
	return api.Core{Op: api.CoreBind, Syms: x.syms, Kids: append(x.values, inner)}
}

func (c *converter) letStar(l []api.Form, s *scope) api.Core {
	need(len(l) > 0)
	bs, names := bindings(l[0], true)
	b := bodyOf(l[1:])
	c.checkSpecials(names, b)
	return c.chain(bs, b, s, func(s *scope) api.Core { return c.progn(b.forms, s.special(b.specials...)) })
}

// chain converts bindings, each one inside of the one ahead, and what stands inside of all.
func (c *converter) chain(bs []binding, b body, s *scope, inner func(s *scope) api.Core) api.Core {
	if len(bs) == 0 {
		return inner(s)
	}
	x := bs[0]
	init := c.form(x.init, s)
	if c.isSpecial(x.name, b) {
		rest := c.chain(bs[1:], b, s.special(x.name), inner)
		return api.Core{Op: api.CoreBind, Syms: []api.Form{x.name}, Kids: []api.Core{init, rest}}
	}
	n := c.number(variables)
	rest := c.chain(bs[1:], b, s.with(variables, x.name, n), inner)
	return api.Core{Op: api.CoreLet, Vars: []int{n}, Kids: []api.Core{init, rest}}
}

// function has the parts of a function: its lambda list and its body.
type function struct {
	list lambda.List
	body body
}

// functionOf reads a lambda list, and the forms behind it.
func (c *converter) functionOf(list api.Form, l []api.Form) function {
	x, e := lambda.Parse(list, false)
	if e != api.OK {
		fail(e)
	}
	out := function{x, bodyOf(l)}
	c.checkSpecials(lambda.Variables(x), out.body)
	return out
}

// lambdaOf reads a list that begins with LAMBDA, and reports whether a form is one.
func (c *converter) lambdaOf(f api.Form) (function, bool) {
	l, ok := forms.Items(f)
	if !ok || len(l) < 2 || !forms.Is(l[0], commonLisp, "LAMBDA") {
		return function{}, false
	}
	return c.functionOf(l[1], l[2:]), true
}

// prognOf returns what converts the forms of a function.
func (c *converter) prognOf(x function) func(s *scope) api.Core {
	return func(s *scope) api.Core { return c.progn(x.body.forms, s) }
}

// lambda converts a function; inner converts its forms.
func (c *converter) lambda(x function, s *scope, inner func(s *scope) api.Core) api.Core {
	out := api.Core{Op: api.CoreLambda}
	if x.list.Allow {
		out.N = 1
	}
	var aux []binding
	names, numbers := []api.Form{}, []int{}
	bind := func(name api.Form) int {
		n := c.number(variables)
		names, numbers = append(names, name), append(numbers, n)
		s = s.with(variables, name, n)
		return n
	}
	for _, item := range x.list.Items { // the kinds of items up to keys are those of parameters
		if item.Kind == lambda.Aux {
			aux = append(aux, binding{item.Var, item.Init})
			continue
		}
		p := api.Param{Kind: item.Kind, Given: -1, Key: item.Key}
		if hasInit(p) {
			out.Kids = append(out.Kids, c.form(item.Init, s))
		}
		p.Var = bind(item.Var)
		if item.Given.Kind != 0 {
			p.Given = bind(item.Given)
		}
		out.Pars = append(out.Pars, p)
	}
	var specials specialBindings
	for i, name := range names {
		if c.isSpecial(name, x.body) {
			s = specials.add(name, variable(numbers[i]), s)
		}
	}
	body := c.chain(aux, x.body, s, func(s *scope) api.Core { return inner(s.special(x.body.specials...)) })
	out.Kids = append(out.Kids, specials.around(body))
	return out
}

func (c *converter) function(l []api.Form, s *scope) api.Core {
	need(len(l) == 1)
	if x, ok := c.lambdaOf(l[0]); ok {
		return c.lambda(x, s, c.prognOf(x))
	}
	need(isFunctionName(l[0]))
	if n, ok := s.find(functions, l[0]); ok {
		return variable(n)
	}
	return api.Core{Op: api.CoreFunction, Data: global(l[0])}
}

// local has the names of local functions, and what they are.
type local struct {
	names     []api.Form
	functions []function
	body      body
}

// localOf reads local functions, and the body behind them.
func (c *converter) localOf(l []api.Form) local {
	need(len(l) > 0)
	definitions, ok := forms.Items(l[0])
	need(ok)
	var out local
	for _, f := range definitions {
		parts, ok := forms.Items(f)
		need(ok && len(parts) >= 2 && isFunctionName(parts[0]))
		out.names = append(out.names, parts[0])
		out.functions = append(out.functions, c.functionOf(parts[1], parts[2:]))
	}
	out.body = bodyOf(l[1:])
	return out
}

// lambdas converts local functions in a scope.
func (c *converter) lambdas(x local, s *scope) []api.Core {
	var out []api.Core
	for i, f := range x.functions {
		out = append(out, c.lambda(f, s, func(s *scope) api.Core { return c.named(x.names[i], f.body.forms, s) }))
	}
	return out
}

// bindLocal numbers local functions, and returns their scope.
func (c *converter) bindLocal(x local, s *scope) ([]int, *scope) {
	var out []int
	for _, name := range x.names {
		n := c.number(variables)
		out = append(out, n)
		s = s.with(functions, name, n)
	}
	return out, s
}

func (c *converter) inner(x local, s *scope) api.Core {
	return c.progn(x.body.forms, s.special(x.body.specials...))
}

func (c *converter) flet(l []api.Form, s *scope) api.Core {
	x := c.localOf(l)
	kids := c.lambdas(x, s)
	vars, s := c.bindLocal(x, s)
	return api.Core{Op: api.CoreLet, Vars: vars, Kids: append(kids, c.inner(x, s))}
}

func (c *converter) labels(l []api.Form, s *scope) api.Core {
	x := c.localOf(l)
	vars, s := c.bindLocal(x, s)
	kids := c.lambdas(x, s)
	return api.Core{Op: api.CoreLabels, Vars: vars, Kids: append(kids, c.inner(x, s))}
}
