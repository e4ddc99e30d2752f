package lambda

import (
	"iter"
	"slices"

	"commonform/api"
	"commonform/forms"
)

// Match binds arguments.
func Match(l List, args []api.Form) ([]Binding, api.Errno) {
	if isEndless(l) {
		return nil, api.ErrForm
	}
	var out []Binding
	for b, e := range bindings(l, args) {
		if e != api.OK {
			return nil, e
		}
		out = append(out, b)
	}
	return out, api.OK
}

// bindings comes to the bindings of all variables, or to the first error.
func bindings(l List, args []api.Form) iter.Seq2[Binding, api.Errno] {
	return func(yield func(Binding, api.Errno) bool) {
		m := matcher{goOn: true, yield: yield}
		if e := m.list(l, args, forms.Nil()); e != api.OK {
			m.put(Binding{}, e)
		}
	}
}

// matcher hands bindings over, as long as they are wanted.
type matcher struct {
	goOn  bool
	yield func(Binding, api.Errno) bool
}

func (m *matcher) put(b Binding, e api.Errno) {
	if m.goOn {
		m.goOn = m.yield(b, e)
	}
}

// list binds the elements of a list, which may have a tail.
func (m *matcher) list(l List, args []api.Form, tail api.Form) api.Errno {
	least, most := Arity(l)
	if len(args) < least || most >= 0 && len(args) > most {
		return api.ErrSize
	}
	if !forms.IsNil(tail) && !l.takesTail() {
		return api.ErrForm
	}
	all, left := args, args[min(len(args), least+l.count(Optional)):]
	if e := l.checkKeys(left); e != api.OK {
		return e
	}
	for _, x := range l.Items {
		value, ok := api.Form{}, true
		switch x.Kind {
		case Required, Optional:
			ok = len(args) > len(left)
			if ok {
				value = args[0]
				args = args[1:]
			}
		case Rest:
			value = forms.Dotted(left, tail)
		case Whole:
			value = forms.Dotted(all, tail)
		case Key:
			value, ok = valueOf(left, x.Key)
		default:
			ok = false
		}
		if e := m.item(x, value, ok); e != api.OK {
			return e
		}
	}
	return api.OK
}

// takesTail reports whether a list that is not proper may fit. With keys it may not, also if there is a &REST: what is left must be a list of pairs.
func (l List) takesTail() bool { return !l.Keys && l.count(Rest) > 0 }

// checkKeys returns the error of what is left for keys.
func (l List) checkKeys(left []api.Form) api.Errno {
	if !l.Keys {
		return api.OK
	}
	if len(left)%2 != 0 {
		return api.ErrForm
	}
	allow := forms.Symbol(keyword, allowMarker[1:])
	if x, ok := valueOf(left, allow); l.Allow || ok && !forms.IsNil(x) {
		return api.OK
	}
	known := append(l.keys(), allow)
	for key := range pairs(left) {
		if !slices.ContainsFunc(known, func(k api.Form) bool { return forms.Equal(k, key) }) {
			return api.ErrNone
		}
	}
	return api.OK
}

// pairs walks keys and values.
func pairs(l []api.Form) iter.Seq2[api.Form, api.Form] {
	return func(yield func(api.Form, api.Form) bool) {
		for i := 0; i+1 < len(l); i += 2 {
			if !yield(l[i], l[i+1]) {
				return
			}
		}
	}
}

// valueOf returns the value behind the first key that is equal to one, and whether there is any.
func valueOf(l []api.Form, key api.Form) (out api.Form, ok bool) {
search:
	for k, value := range pairs(l) {
		if forms.Equal(k, key) {
			out, ok = value, true
			break search
		}
	}
	return out, ok
}

// item binds the variables of an item, which has a value if it is given.
func (m *matcher) item(x Item, value api.Form, given bool) api.Errno {
	switch {
	case x.Pattern == nil && given:
		m.bind(x.Var, value)
	case x.Pattern == nil:
		m.miss(x.Var)
	case !given:
		for _, v := range Variables(*x.Pattern) {
			m.miss(v)
		}
	default:
		if e := m.pattern(*x.Pattern, value); e != api.OK {
			return e
		}
	}
	if x.hasGiven() {
		m.bind(x.Given, truth(given))
	}
	return api.OK
}

func (m *matcher) pattern(l List, value api.Form) api.Errno {
	if !isList(value) {
		return api.ErrForm
	}
	elements, tail := forms.Spread(value)
	return m.list(l, elements, tail)
}

func (m *matcher) bind(v, value api.Form) {
	m.put(Binding{Var: copied(v), Value: copied(value)}, api.OK)
}

// miss binds a variable that gets no value.
func (m *matcher) miss(v api.Form) {
	m.put(Binding{Var: copied(v), Value: forms.Nil(), Missing: true}, api.OK)
}

func truth(b bool) api.Form {
	if b {
		return forms.Symbol(commonLisp, "T")
	}
	return forms.Nil()
}
