package lambda

import (
	"commonform/api"
	"commonform/forms"
)

// States of reading a lambda list: which group its next element belongs to.
const (
	inRequired = iota
	inOptional
	behindRest
	inKeys
	behindKeys
	inAux
)

// parser reads the elements of a lambda list.
type parser struct {
	macro, inner   bool // inner: a pattern
	state          int
	hasEnvironment bool
	left           []api.Form
	out            List
}

// Parse returns what a lambda list says.
func Parse(list api.Form, macro bool) (List, api.Errno) {
	if e := forms.Check(list); e != api.OK {
		return List{}, e
	}
	p := parser{macro: macro}
	if !isList(list) || !p.read(list) {
		return List{}, api.ErrForm
	}
	if isTwice(Variables(p.out)) || hasKeyTwice(p.out) {
		return List{}, api.ErrTwice
	}
	return p.out, api.OK
}

// isTwice reports whether a symbol occurs twice.
func isTwice(symbols []api.Form) bool {
	seen := map[[2]string]bool{}
	for _, s := range symbols {
		name := [2]string{s.Home, s.Text}
		if seen[name] {
			return true
		}
		seen[name] = true
	}
	return false
}

// hasKeyTwice reports whether a lambda list, or a pattern in it, has a key twice.
func hasKeyTwice(l List) bool {
	for _, x := range l.Items {
		if x.Pattern != nil && hasKeyTwice(*x.Pattern) {
			return true
		}
	}
	return isTwice(l.keys())
}

func (l List) keys() []api.Form {
	var out []api.Form
	for _, x := range l.Items {
		if x.Kind == Key {
			out = append(out, x.Key)
		}
	}
	return out
}

// read reads a list, and reports whether it is right.
func (p *parser) read(list api.Form) bool {
	elements, tail := forms.Spread(list)
	p.left = elements
	if len(elements) > 0 && marker(elements[0]) == wholeMarker {
		p.take()
		if !p.mayHaveContext() || !p.variable(Whole) {
			return false
		}
	}
	for len(p.left) > 0 {
		if !p.element() {
			return false
		}
	}
	return forms.IsNil(tail) || p.tail(tail)
}

// mayHaveContext reports whether the list may have &WHOLE and &ENVIRONMENT.
func (p *parser) mayHaveContext() bool { return p.macro && !p.inner }

// take returns the next element; a form that is none, if there is no further one.
func (p *parser) take() api.Form {
	if len(p.left) == 0 {
		return api.Form{}
	}
	x := p.left[0]
	p.left = p.left[1:]
	return x
}

// variable takes the variable that has to stand behind a marker.
func (p *parser) variable(kind int) bool {
	x := p.take()
	p.add(Item{Kind: kind, Var: x})
	return isVariable(x)
}

// add adds an item; one without an init form has NIL.
func (p *parser) add(x Item) {
	if x.Init.Kind == 0 {
		x.Init = forms.Nil()
	}
	p.out.Items = append(p.out.Items, x)
}

// tail reads a tail, which says what &REST and a variable say.
func (p *parser) tail(x api.Form) bool {
	p.add(Item{Kind: Rest, Var: x})
	return p.macro && p.state <= inOptional && isVariable(x)
}

// element reads the next element, with the variable of a marker that has one.
func (p *parser) element() bool {
	x := p.take()
	switch marker(x) {
	case "":
		return p.parameter(x)
	case optionalMarker:
		return p.enter(inRequired, inOptional)
	case restMarker, bodyMarker:
		return p.enter(inOptional, behindRest) && p.variable(Rest)
	case keyMarker:
		p.out.Keys = true
		return p.enter(behindRest, inKeys)
	case allowMarker:
		p.out.Allow = true
		return p.state == inKeys && p.enter(inKeys, behindKeys)
	case auxMarker:
		return p.enter(behindKeys, inAux)
	case environmentMarker:
		isFirst := !p.hasEnvironment
		p.hasEnvironment = true
		return isFirst && p.mayHaveContext() && p.variable(Environment)
	}
	return false
}

// enter goes on to a group from a state up to last.
func (p *parser) enter(last, next int) bool {
	ok := p.state <= last
	p.state = next
	return ok
}

// parameter reads an element that is no marker.
func (p *parser) parameter(x api.Form) bool {
	item := Item{}
	ok := false
	switch p.state {
	case inRequired:
		item.Kind = Required
		ok = p.target(&item, x)
	case inOptional:
		item.Kind = Optional
		ok = p.described(&item, x, 3, p.target)
	case inKeys:
		item.Kind = Key
		ok = p.described(&item, x, 3, p.keyed)
		if item.Key.Kind == 0 {
			item.Key = forms.Symbol(keyword, item.Var.Text)
		}
	case inAux:
		item.Kind = Aux
		ok = p.described(&item, x, 2, named)
	}
	p.add(item)
	return ok
}

// named reads a variable.
func named(item *Item, x api.Form) bool {
	item.Var = x
	return isVariable(x)
}

// target reads a variable or, for macros, a pattern.
func (p *parser) target(item *Item, x api.Form) bool {
	if !p.macro || !isList(x) {
		return named(item, x)
	}
	inner := parser{macro: true, inner: true}
	ok := inner.read(x)
	item.Pattern = &inner.out
	return ok
}

// keyed reads what a key parameter binds, maybe with its key.
func (p *parser) keyed(item *Item, x api.Form) bool {
	l, ok := forms.Items(x)
	if !ok || len(l) != 2 {
		return named(item, x)
	}
	item.Key = l[0]
	return l[0].Kind == api.FormSymbol && p.target(item, l[1])
}

// described reads a variable, or a list of at most most elements: what is read by first, an init form, and a variable that tells whether it was given.
func (p *parser) described(item *Item, x api.Form, most int, first func(*Item, api.Form) bool) bool {
	if isVariable(x) {
		item.Var = x
		return true
	}
	l, ok := forms.Items(x)
	if !ok || len(l) == 0 || len(l) > most || !first(item, l[0]) {
		return false
	}
	if len(l) > 1 {
		item.Init = l[1]
	}
	if len(l) > 2 {
		item.Given = l[2]
		return isVariable(l[2])
	}
	return true
}
