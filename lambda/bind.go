package lambda

import (
	"strconv"

	"commonform/api"
	"commonform/forms"
)

// freshHome is the package of fresh variables.
const freshHome = "%"

// Bind returns a form that binds the variables of a macro's lambda list.
func Bind(l List, from api.Form, body []api.Form, next int) (api.Form, int, api.Errno) {
	if _, e := Show(l); e != api.OK {
		return api.Form{}, 0, e
	}
	b := binder{next: next}
	b.list(l, b.checked(l, from))
	out := call("LET*", append([]api.Form{forms.List(b.bindings)}, body...)...)
	return out, b.next, api.OK
}

// binder collects the bindings of one LET*. All checks stand ahead of the first binding, since Match finds all errors ahead of all init forms. What is left of a list is a variable that is set: a binding for each rest would make the form twice as deep.
type binder struct {
	next     int
	bindings []api.Form
}

func (b *binder) fresh() api.Form {
	name := strconv.Itoa(b.next)
	b.next++
	return forms.Symbol(freshHome, name)
}

func (b *binder) bind(v, value api.Form) {
	b.bindings = append(b.bindings, forms.List([]api.Form{v, value}))
}

// list binds the variables of a list that fits, which is the value of a form.
func (b *binder) list(l List, value api.Form) {
	left := b.fresh()
	b.bind(left, value)
	var place api.Form // where the key of the present item stands
	for _, x := range l.Items {
		switch x.Kind {
		case Whole, Rest:
			b.bind(x.Var, left)
		case Required:
			b.target(x, taken(left))
		case Optional:
			b.optional(x, left)
		case Key:
			if place.Kind == 0 {
				place = b.fresh()
				b.bind(place, forms.Nil())
			}
			b.key(x, left, place)
		default: // an environment has NIL, as it has no init form
			b.bind(x.Var, x.init())
		}
	}
}

// target binds the variable, or those of the pattern, of an item.
func (b *binder) target(x Item, value api.Form) {
	if x.Pattern != nil {
		b.list(*x.Pattern, value)
		return
	}
	b.bind(x.Var, value)
}

// otherwise returns what an item that is missing is bound to.
func (b *binder) otherwise(x Item) api.Form {
	if x.Pattern != nil {
		return b.checked(*x.Pattern, x.Init)
	}
	return x.Init
}

func (b *binder) optional(x Item, left api.Form) {
	isThere := call("CONSP", left)
	if !x.hasGiven() {
		b.target(x, choice(isThere, taken(left), b.otherwise(x)))
		return
	}
	b.target(x, choice(isThere, call("CAR", left), b.otherwise(x)))
	b.bind(x.Given, choice(isThere, call("PROGN", step(left), truth(true)), truth(false)))
}

func (b *binder) key(x Item, left, place api.Form) {
	search := b.search(place, left, x.Key)
	isThere := call("CONSP", place)
	value := choice(isThere, call("CAR", call("CDR", place)), b.otherwise(x))
	b.target(x, call("PROGN", append(search, value)...))
	if x.hasGiven() {
		b.bind(x.Given, choice(isThere, truth(true), truth(false)))
	}
}

// search returns forms that set place to the part of a list of pairs that begins with a key, or to no cons.
func (b *binder) search(place, list, key api.Form) []api.Form {
	again := b.fresh()
	further := call("PROGN", call("SETQ", place, call("CDR", call("CDR", place))), call("GO", again))
	isFound := call("EQ", call("CAR", place), call("QUOTE", key))
	return []api.Form{
		call("SETQ", place, list),
		call("TAGBODY", again, choice(call("CONSP", place), choice(isFound, forms.Nil(), further), forms.Nil())),
	}
}

// checked returns a form with the value of another one, which must fit a list.
func (b *binder) checked(l List, value api.Form) api.Form {
	whole, left := b.fresh(), b.fresh()
	bindings := forms.List([]api.Form{forms.List([]api.Form{whole, value}), forms.List([]api.Form{left, whole})})
	return call("LET*", append(append([]api.Form{bindings}, b.checks(l, left)...), whole)...)
}

// checks returns forms that go along the list in left, and call %BAD-FORM if it does not fit.
func (b *binder) checks(l List, left api.Form) []api.Form {
	var out []api.Form
	if l.count(Required) == 0 && l.takesTail() { // otherwise what follows finds what is no list
		out = append(out, wanted("CONSP", left, wanted("NULL", left, bad())))
	}
	for _, x := range l.Items {
		switch x.Kind {
		case Required:
			out = append(out, choice(call("CONSP", left), b.passed(x, left), bad()))
		case Optional:
			out = append(out, choice(call("CONSP", left), b.passed(x, left), forms.Nil()))
		}
	}
	switch {
	case l.Keys:
		out = append(out, b.keyChecks(l, left)...)
	case l.count(Rest) == 0:
		out = append(out, wanted("NULL", left, bad()))
	}
	return out
}

// passed returns a form that checks the first element of a list, if this is for a pattern, and sets left to its cdr.
func (b *binder) passed(x Item, left api.Form) api.Form {
	if x.Pattern == nil {
		return step(left)
	}
	return call("PROGN", b.part(*x.Pattern, call("CAR", left)), step(left))
}

// part returns a form that checks what is for a pattern.
func (b *binder) part(l List, value api.Form) api.Form {
	left := b.fresh()
	bindings := forms.List([]api.Form{forms.List([]api.Form{left, value})})
	return call("LET*", append([]api.Form{bindings}, b.checks(l, left)...)...)
}

// keyChecks returns the checks of the pairs in left.
func (b *binder) keyChecks(l List, left api.Form) []api.Form {
	place, isUnknown := b.fresh(), b.fresh()
	again, known, end := b.fresh(), b.fresh(), b.fresh()
	allow := forms.Symbol(keyword, allowMarker[1:])
	loop := []api.Form{again, wanted("CONSP", place, call("GO", end)), choice(call("CONSP", call("CDR", place)), forms.Nil(), bad())}
	if !l.Allow {
		for _, key := range append(l.keys(), allow) {
			loop = append(loop, choice(call("EQ", call("CAR", place), call("QUOTE", key)), call("GO", known), forms.Nil()))
		}
		loop = append(loop, call("SETQ", isUnknown, truth(true)))
	}
	loop = append(loop, known, call("SETQ", place, call("CDR", call("CDR", place))), call("GO", again), end)
	body := []api.Form{
		forms.List([]api.Form{forms.List([]api.Form{place, left}), forms.List([]api.Form{isUnknown, forms.Nil()})}),
		call("TAGBODY", loop...),
		wanted("NULL", place, bad()), // a &REST takes no tail of a list of pairs
	}
	if !l.Allow {
		value := choice(call("CONSP", place), call("CAR", call("CDR", place)), forms.Nil())
		isAllowed := append(b.search(place, left, allow), choice(value, forms.Nil(), bad()))
		body = append(body, choice(isUnknown, call("PROGN", isAllowed...), forms.Nil()))
	}
	for _, x := range l.Items {
		if x.Kind == Key && x.Pattern != nil {
			body = append(body, b.search(place, left, x.Key)...)
			body = append(body, choice(call("CONSP", place), b.part(*x.Pattern, call("CAR", call("CDR", place))), forms.Nil()))
		}
	}
	return []api.Form{call("LET*", body...)}
}

// call returns the list of a symbol of COMMON-LISP and arguments.
func call(name string, args ...api.Form) api.Form { return forms.Call(name, args) }

func choice(test, yes, no api.Form) api.Form { return call("IF", test, yes, no) }

// wanted returns a form that does something if a test of a variable does not hold.
func wanted(test string, v, otherwise api.Form) api.Form {
	return choice(call(test, v), forms.Nil(), otherwise)
}

func bad() api.Form { return call("%BAD-FORM") }

// step returns a form that sets a variable to its cdr.
func step(left api.Form) api.Form { return call("SETQ", left, call("CDR", left)) }

// taken returns a form with the first element of a list, of which its cdr is left then.
func taken(left api.Form) api.Form {
	return call("MULTIPLE-VALUE-PROG1", call("CAR", left), step(left))
}
