package lambda

import (
	"slices"

	"commonform/api"
	"commonform/forms"
)

// Show returns a lambda list.
func Show(l List) (api.Form, api.Errno) {
	if isEndless(l) {
		return api.Form{}, api.ErrForm
	}
	for _, short := range []bool{false, true} { // with tails for &REST where the list would be too large otherwise
		s := shower{short: short}
		f := s.list(l)
		if back, e := Parse(f, true); e == api.OK && isAlike(back, l) {
			return f, api.OK
		}
	}
	return api.Form{}, api.ErrForm
}

// isAlike reports whether two lists say the same. Items that cannot have an init form may have NIL or nothing as theirs.
func isAlike(a, b List) bool {
	if a.Keys != b.Keys || a.Allow != b.Allow {
		return false
	}
	return slices.EqualFunc(a.Items, b.Items, func(x, y Item) bool {
		if x.Kind != y.Kind || (x.Pattern == nil) != (y.Pattern == nil) || !forms.Equal(x.Var, y.Var) {
			return false
		}
		if !forms.Equal(x.init(), y.init()) || !forms.Equal(x.Given, y.Given) || !forms.Equal(x.Key, y.Key) {
			return false
		}
		return x.Pattern == nil || isAlike(*x.Pattern, *y.Pattern)
	})
}

// init returns the init form of an item.
func (x Item) init() api.Form {
	if !x.mayHaveInit() && x.Init.Kind == 0 {
		return forms.Nil()
	}
	return x.Init
}

// shower writes lambda lists with as few nodes as it can; short ones have a tail instead of &REST.
type shower struct{ short bool }

func (s shower) list(l List) api.Form {
	var out []api.Form
	put := func(name string) { out = append(out, forms.Symbol(commonLisp, name)) }
	hasKeys, isOptional, isAux := !l.Keys, false, false
	enterKeys := func() {
		if !hasKeys {
			hasKeys = true
			put(keyMarker)
		}
	}
	leaveKeys := func() {
		enterKeys()
		if l.Allow {
			put(allowMarker)
		}
	}
	for i, x := range l.Items {
		switch x.Kind {
		case Optional:
			if !isOptional {
				isOptional = true
				put(optionalMarker)
			}
		case Rest:
			if s.short && i == len(l.Items)-1 && !l.Keys && !l.Allow {
				return withTail(out, x.Var)
			}
			put(restMarker)
		case Key:
			enterKeys()
		case Aux:
			if !isAux {
				isAux = true
				leaveKeys()
				put(auxMarker)
			}
		case Whole:
			put(wholeMarker)
		case Environment:
			put(environmentMarker)
		}
		out = append(out, s.item(x))
	}
	if !isAux {
		leaveKeys()
	}
	return forms.List(out)
}

// withTail returns a list with a tail, ahead of which something has to stand.
func withTail(l []api.Form, tail api.Form) api.Form {
	if len(l) == 0 {
		l = []api.Form{forms.Symbol(commonLisp, optionalMarker)}
	}
	return forms.Dotted(l, tail)
}

// item returns an item without its marker.
func (s shower) item(x Item) api.Form {
	target := x.Var
	if x.Pattern != nil {
		target = s.list(*x.Pattern)
	}
	if x.Kind == Key && (x.Pattern != nil || !forms.Is(x.Key, keyword, x.Var.Text)) {
		target = forms.List([]api.Form{x.Key, target})
	}
	switch {
	case !x.mayHaveInit():
		return target
	case x.hasGiven():
		return forms.List([]api.Form{target, x.Init, x.Given})
	case !forms.IsNil(x.Init):
		return forms.List([]api.Form{target, x.Init})
	case !isVariable(target):
		return forms.List([]api.Form{target})
	}
	return target
}
