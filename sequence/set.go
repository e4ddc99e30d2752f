package sequence

import "commonform/api"

// signed returns the signs of the keys of two sets, or the first error.
func signed(a, b []api.Form, test, key int) (x, y []string, e api.Errno) {
	if e := sizeError(a, b); e != api.OK {
		return nil, nil, e
	}
	if !isOneOf(test, testCount) || !isOneOf(key, keyCount) {
		return nil, nil, api.ErrArg
	}
	x, e = signsOf(test, key, a)
	if e != api.OK {
		return nil, nil, e
	}
	y, e = signsOf(test, key, b)
	if e != api.OK {
		return nil, nil, e
	}
	return x, y, api.OK
}

// chosen returns the elements of l, which have these signs, if their signs are, or are not, among others.
func chosen(l []api.Form, signs, others []string, among bool) []api.Form {
	known := map[string]bool{}
	for _, s := range others {
		known[s] = true
	}
	var out []api.Form
	for i, x := range l {
		if known[signs[i]] == among {
			out = append(out, clone(x))
		}
	}
	return out
}

// Union returns the elements of two sets.
func Union(a, b []api.Form, test, key int) ([]api.Form, api.Errno) {
	x, y, e := signed(a, b, test, key)
	if e != api.OK {
		return nil, e
	}
	out := append(cloneAll(a), chosen(b, y, x, false)...)
	if len(out) > api.MaxForm {
		return nil, api.ErrSize
	}
	return out, api.OK
}

// Intersection returns the elements of a set that another one has, too.
func Intersection(a, b []api.Form, test, key int) ([]api.Form, api.Errno) {
	x, y, e := signed(a, b, test, key)
	if e != api.OK {
		return nil, e
	}
	return chosen(a, x, y, true), api.OK
}

// Difference returns the elements of a set that another one does not have.
func Difference(a, b []api.Form, test, key int) ([]api.Form, api.Errno) {
	x, y, e := signed(a, b, test, key)
	if e != api.OK {
		return nil, e
	}
	return chosen(a, x, y, false), api.OK
}

// Subset reports whether a set has all elements of another one.
func Subset(a, b []api.Form, test, key int) (bool, api.Errno) {
	rest, e := Difference(a, b, test, key)
	return e == api.OK && len(rest) == 0, e
}
