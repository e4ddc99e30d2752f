package core

import (
	"commonform/api"
	"commonform/forms"
)

func (c *converter) quote(l []api.Form, s *scope) api.Core {
	need(len(l) == 1)
	return constant(l[0])
}

func (c *converter) choice(l []api.Form, s *scope) api.Core {
	need(len(l) == 2 || len(l) == 3)
	kids := c.all(nil, l, s)
	if len(l) == 2 {
		kids = append(kids, constant(forms.Nil()))
	}
	return node(api.CoreIf, kids...)
}

func (c *converter) setq(l []api.Form, s *scope) api.Core {
	need(len(l)%2 == 0)
	for i := 0; i < len(l); i += 2 {
		need(isVariable(l[i]))
		if _, ok := s.lexical(l[i]); !ok {
			global(l[i])
		}
	}
	var out []api.Core
	for i := 0; i < len(l); i += 2 {
		out = append(out, assignment(l[i], c.form(l[i+1], s), s))
	}
	switch len(out) {
	case 0:
		return constant(forms.Nil())
	case 1:
		return out[0]
	}
	return node(api.CoreProgn, out...)
}

func assignment(name api.Form, value api.Core, s *scope) api.Core {
	if n, ok := s.lexical(name); ok {
		return api.Core{Op: api.CoreSet, N: n, Kids: []api.Core{value}}
	}
	return api.Core{Op: api.CoreSetSpecial, Data: name, Kids: []api.Core{value}}
}

func (c *converter) block(l []api.Form, s *scope) api.Core {
	need(len(l) > 0 && l[0].Kind == api.FormSymbol)
	return c.named(l[0], l[1:], s)
}

// named converts the forms of a block.
func (c *converter) named(name api.Form, l []api.Form, s *scope) api.Core {
	n := c.number(blocks)
	return api.Core{Op: api.CoreBlock, N: n, Kids: []api.Core{c.progn(l, s.with(blocks, name, n))}}
}

func (c *converter) returnFrom(l []api.Form, s *scope) api.Core {
	need((len(l) == 1 || len(l) == 2) && l[0].Kind == api.FormSymbol)
	n, ok := s.find(blocks, l[0])
	if !ok {
		fail(ErrScope)
	}
	value := constant(forms.Nil())
	if len(l) == 2 {
		value = c.form(l[1], s)
	}
	return api.Core{Op: api.CoreReturn, N: n, Kids: []api.Core{value}}
}

func isTag(f api.Form) bool { return f.Kind == api.FormSymbol || f.Kind == api.FormInt }

func (c *converter) tagbody(l []api.Form, s *scope) api.Core {
	var names []api.Form
	segments := [][]api.Form{nil}
	for _, f := range l {
		if !isTag(f) {
			last := len(segments) - 1
			segments[last] = append(segments[last], f)
			continue
		}
		if contains(names, f) {
			fail(api.ErrTwice)
		}
		names = append(names, f)
		segments = append(segments, nil)
	}
	out := api.Core{Op: api.CoreTagbody}
	for _, name := range names {
		n := c.number(tags)
		out.Vars = append(out.Vars, n)
		s = s.with(tags, name, n)
	}
	for _, segment := range segments {
		out.Kids = append(out.Kids, c.progn(segment, s))
	}
	return out
}

func (c *converter) goTo(l []api.Form, s *scope) api.Core {
	need(len(l) == 1 && isTag(l[0]))
	n, ok := s.find(tags, l[0])
	if !ok {
		fail(ErrScope)
	}
	return api.Core{Op: api.CoreGo, N: n}
}

// headed converts some forms, and those behind them as one.
func (c *converter) headed(op, heads int, l []api.Form, s *scope) api.Core {
	need(len(l) >= heads)
	kids := c.all(nil, l[:heads], s)
	return node(op, append(kids, c.progn(l[heads:], s))...)
}

func (c *converter) catch(l []api.Form, s *scope) api.Core {
	return c.headed(api.CoreCatch, 1, l, s)
}

func (c *converter) throw(l []api.Form, s *scope) api.Core {
	need(len(l) == 2)
	return node(api.CoreThrow, c.all(nil, l, s)...)
}

func (c *converter) protect(l []api.Form, s *scope) api.Core {
	return c.headed(api.CoreProtect, 1, l, s)
}

func (c *converter) progv(l []api.Form, s *scope) api.Core {
	return c.headed(api.CoreProgv, 2, l, s)
}

func (c *converter) valuesCall(l []api.Form, s *scope) api.Core {
	need(len(l) > 0)
	return node(api.CoreValuesCall, c.all(nil, l, s)...)
}

func (c *converter) valuesFirst(l []api.Form, s *scope) api.Core {
	need(len(l) > 0)
	return node(api.CoreValuesFirst, c.all(nil, l, s)...)
}

func (c *converter) the(l []api.Form, s *scope) api.Core {
	need(len(l) == 2)
	return c.form(l[1], s)
}

func (c *converter) loadTimeValue(l []api.Form, s *scope) api.Core {
	need(len(l) == 1 || len(l) == 2)
	return c.form(l[0], s)
}
