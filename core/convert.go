package core

import (
	"slices"

	"commonform/api"
	"commonform/forms"
	"commonform/lambda"
)

// failure is what a conversion panics with.
type failure api.Errno

func fail(e api.Errno) { panic(failure(e)) }

// need fails if a form is none of those that are described.
func need(ok bool) {
	if !ok {
		fail(api.ErrForm)
	}
}

// Convert returns the core tree of an expanded form.
func Convert(f api.Form, specials []api.Form) (out api.Core, e api.Errno) {
	if e := forms.Check(f); e != api.OK {
		return api.Core{}, e
	}
	defer func() {
		if code, ok := recover().(failure); ok {
			out, e = api.Core{}, api.Errno(code)
		}
	}()
	need(!hasLabels(f))
	c := converter{specials: specials, rules: specialForms()}
	tree := c.form(f, nil)
	if e := Check(tree); e != api.OK {
		return api.Core{}, e
	}
	return tree, api.OK
}

func hasLabels(f api.Form) bool {
	return f.Kind == api.FormLabel || f.Kind == api.FormRef || slices.ContainsFunc(f.Kids, hasLabels)
}

// converter converts forms, and counts the numbers that it gives.
type converter struct {
	specials []api.Form
	rules    map[string]func(c *converter, l []api.Form, s *scope) api.Core
	next     [kinds]int
}

// number returns the next number of a kind.
func (c *converter) number(kind int) int {
	n := c.next[kind]
	c.next[kind]++
	return n
}

// specialForms returns what converts special forms, from the elements behind the first one.
func specialForms() map[string]func(c *converter, l []api.Form, s *scope) api.Core {
	return map[string]func(c *converter, l []api.Form, s *scope) api.Core{
		"QUOTE":                (*converter).quote,
		"FUNCTION":             (*converter).function,
		"IF":                   (*converter).choice,
		"PROGN":                (*converter).progn,
		"LET":                  (*converter).let,
		"LET*":                 (*converter).letStar,
		"SETQ":                 (*converter).setq,
		"BLOCK":                (*converter).block,
		"RETURN-FROM":          (*converter).returnFrom,
		"TAGBODY":              (*converter).tagbody,
		"GO":                   (*converter).goTo,
		"CATCH":                (*converter).catch,
		"THROW":                (*converter).throw,
		"UNWIND-PROTECT":       (*converter).protect,
		"MULTIPLE-VALUE-CALL":  (*converter).valuesCall,
		"MULTIPLE-VALUE-PROG1": (*converter).valuesFirst,
		"PROGV":                (*converter).progv,
		"FLET":                 (*converter).flet,
		"LABELS":               (*converter).labels,
		"LOCALLY":              (*converter).locally,
		"THE":                  (*converter).the,
		"LOAD-TIME-VALUE":      (*converter).loadTimeValue,
	}
}

// form converts a form in a scope.
func (c *converter) form(f api.Form, s *scope) api.Core {
	switch {
	case f.Kind == api.FormSymbol && !isConstant(f):
		return c.variable(f, s)
	case f.Kind != api.FormCons:
		return constant(f)
	}
	l, ok := forms.Items(f)
	need(ok)
	head, args := l[0], l[1:]
	if head.Kind == api.FormSymbol {
		if rule, ok := c.rules[head.Text]; ok && head.Home == commonLisp {
			return rule(c, args, s)
		}
		return c.call(head, args, s)
	}
	x, ok := c.lambdaOf(head)
	need(ok)
	function := c.lambda(x, s, c.prognOf(x))
	return api.Core{Op: api.CoreCall, Kids: c.all([]api.Core{function}, args, s)}
}

// isConstant reports whether a symbol is its own value.
func isConstant(f api.Form) bool {
	return forms.IsNil(f) || forms.Is(f, commonLisp, "T") || f.Home == keyword
}

// isVariable reports whether a form may be a variable: those are the lambda lists of one parameter.
func isVariable(f api.Form) bool {
	if f.Kind != api.FormSymbol {
		return false
	}
	l, e := lambda.Parse(forms.List([]api.Form{f}), false)
	return e == api.OK && len(l.Items) == 1
}

func constant(f api.Form) api.Core {
	return api.Core{Op: api.CoreConst, Data: forms.Dotted(nil, f)}
}

// node returns a node that has but kids.
func node(op int, kids ...api.Core) api.Core { return api.Core{Op: op, Kids: kids} }

func variable(n int) api.Core { return api.Core{Op: api.CoreVar, N: n} }

// global returns a symbol as the name of a special variable or of a global function.
func global(f api.Form) api.Form {
	need(f.Home != "")
	return f
}

func (c *converter) variable(f api.Form, s *scope) api.Core {
	if n, ok := s.lexical(f); ok {
		return variable(n)
	}
	return api.Core{Op: api.CoreSpecial, Data: global(f)}
}

// all converts forms behind kids.
func (c *converter) all(kids []api.Core, l []api.Form, s *scope) []api.Core {
	for _, f := range l {
		kids = append(kids, c.form(f, s))
	}
	return kids
}

func (c *converter) progn(l []api.Form, s *scope) api.Core {
	if len(l) == 1 {
		return c.form(l[0], s)
	}
	return node(api.CoreProgn, c.all(nil, l, s)...)
}

// call converts a call of a function by its name.
func (c *converter) call(name api.Form, args []api.Form, s *scope) api.Core {
	need(isFunctionName(name))
	if n, ok := s.find(functions, name); ok {
		return node(api.CoreCall, c.all([]api.Core{variable(n)}, args, s)...)
	}
	name = global(name)
	return api.Core{Op: api.CoreCallGlobal, Data: name, Kids: c.all(nil, args, s)}
}

func isFunctionName(f api.Form) bool { return f.Kind == api.FormSymbol && !isConstant(f) }
