package types

import (
	"commonform/api"
	"commonform/forms"
)

// Of returns a type that an object has, as special as types are here.
func Of(x api.Form) (api.Form, api.Errno) {
	if e := objectError(x); e != api.OK {
		return api.Form{}, e
	}
	t := of(x, 0)
	if Check(t) != api.OK { // too many nodes, or a number that is too long
		return symbol("T"), api.OK
	}
	return t, api.OK
}

// of returns the type of an object that stands in some conses.
func of(x api.Form, nesting int) api.Form {
	switch x.Kind {
	case api.FormSymbol:
		return ofSymbol(x)
	case api.FormCons:
		if nesting == maxNesting {
			return symbol("CONS")
		}
		return forms.Call("CONS", []api.Form{of(x.Kids[0], nesting+1), of(cdr(x), nesting+1)})
	case api.FormString:
		return unlessWrong("STRING", ofInt(dimensions(x)[0]))
	case api.FormBits:
		return unlessWrong("BIT-VECTOR", ofInt(dimensions(x)[0]))
	case api.FormVector:
		return unlessWrong("SIMPLE-VECTOR", ofInt(dimensions(x)[0]))
	case api.FormArray:
		var l []api.Form
		for _, d := range dimensions(x) {
			l = append(l, ofInt(d))
		}
		return unlessWrong("ARRAY", symbol("*"), forms.List(l))
	}
	return forms.Call("EQL", []api.Form{x})
}

func ofSymbol(x api.Form) api.Form {
	if x.Home == "" {
		return symbol("SYMBOL")
	}
	if x.Home != opaque {
		return forms.Call("EQL", []api.Form{x})
	}
	switch x.Text {
	case "BUILTIN", "CLOSURE":
		return symbol("FUNCTION")
	case "TABLE":
		return symbol("HASH-TABLE")
	}
	return symbol("ATOM")
}

// unlessWrong returns a list, or its name alone if the list is no type specifier.
func unlessWrong(name string, l ...api.Form) api.Form {
	t := forms.Call(name, l)
	if Check(t) != api.OK {
		return symbol(name)
	}
	return t
}
