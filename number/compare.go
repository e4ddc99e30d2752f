package number

import "commonform/api"

// Equals reports whether x and y have the same value.
func Equals(x, y api.Form) (bool, api.Errno) {
	l, e := parseAll(x, y)
	if e != api.OK {
		return false, e
	}
	for i, part := range l[0].parts {
		if part.value().Cmp(l[1].parts[i].value()) != 0 {
			return false, api.OK
		}
	}
	return true, api.OK
}

// Eql reports whether x and y are the same number of the same kind.
func Eql(x, y api.Form) (bool, api.Errno) {
	if _, e := parseAll(x, y); e != api.OK {
		return false, e
	}
	return sameForm(x, y), api.OK
}

func sameForm(x, y api.Form) bool {
	if x.Kind != y.Kind || x.Text != y.Text {
		return false
	}
	for i, kid := range x.Kids {
		if !sameForm(kid, y.Kids[i]) {
			return false
		}
	}
	return true
}

// Cmp compares two real numbers.
func Cmp(x, y api.Form) (int, api.Errno) {
	l, e := parseReals(x, y)
	if e != api.OK {
		return 0, e
	}
	return l[0].value().Cmp(l[1].value()), api.OK
}

// Greatest returns the first one of the greatest real numbers.
func Greatest(l []api.Form) (api.Form, api.Errno) {
	if len(l) == 0 {
		return api.Form{}, api.ErrNone
	}
	var out real
	for i, x := range l {
		r, e := parseReals(x)
		if e != api.OK {
			return api.Form{}, e
		}
		if i == 0 || r[0].value().Cmp(out.value()) > 0 {
			out = r[0]
		}
	}
	return out.form()
}
