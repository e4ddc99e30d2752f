package sequence

import "commonform/api"

// changed returns the elements that are taken, at most as many as Count says, as a set of their indices.
func changed(x api.Form, l []api.Form, o Options) (map[int]bool, api.Errno) {
	found, e := taken(x, l, o)
	if e != api.OK {
		return nil, e
	}
	if o.Count >= 0 {
		found = found[:min(o.Count, len(found))]
	}
	out := map[int]bool{}
	for _, i := range found {
		out[i] = true
	}
	return out, api.OK
}

// without returns the elements of l but for some.
func without(l []api.Form, left map[int]bool) []api.Form {
	var out []api.Form
	for i, x := range l {
		if !left[i] {
			out = append(out, clone(x))
		}
	}
	return out
}

// Remove returns the elements that are not like x.
func Remove(x api.Form, l []api.Form, o Options) ([]api.Form, api.Errno) {
	left, e := changed(x, l, o)
	if e != api.OK {
		return nil, e
	}
	return without(l, left), api.OK
}

// Substitute returns the elements with another one for those that are like x.
func Substitute(other, x api.Form, l []api.Form, o Options) ([]api.Form, api.Errno) {
	places, e := changed(x, l, o)
	if e != api.OK {
		return nil, e
	}
	out := cloneAll(l)
	for i := range out {
		if places[i] {
			out[i] = clone(other)
		}
	}
	return out, api.OK
}

// Distinct returns the elements without those that are like others.
func Distinct(l []api.Form, o Options) ([]api.Form, api.Errno) {
	if e := sizeError(l); e != api.OK {
		return nil, e
	}
	k, e := look(l, o)
	if e != api.OK {
		return nil, e
	}
	left, seen := map[int]bool{}, map[string]bool{}
	for i := range k.indices(!o.FromEnd) { // those that make an element go come ahead of it
		s := k.sign(i)
		left[i] = seen[s]
		if o.Not {
			left[i] = len(seen) > 1 || len(seen) == 1 && !seen[s]
		}
		seen[s] = true
	}
	return without(l, left), api.OK
}

// Subsequence returns some elements.
func Subsequence(l []api.Form, start, end int) ([]api.Form, api.Errno) {
	if e := sizeError(l); e != api.OK {
		return nil, e
	}
	s, e := spanOf(start, end, len(l))
	if e != api.OK {
		return nil, e
	}
	return cloneAll(l[s.start:s.end]), api.OK
}

// Replace returns the elements with some replaced by those of another sequence.
func Replace(l, m []api.Form, start, end, from, to int) ([]api.Form, api.Errno) {
	if e := sizeError(l, m); e != api.OK {
		return nil, e
	}
	s, e := spanOf(start, end, len(l))
	if e != api.OK {
		return nil, e
	}
	t, e := spanOf(from, to, len(m))
	if e != api.OK {
		return nil, e
	}
	out := cloneAll(l)
	for i := range min(s.size(), t.size()) {
		out[s.start+i] = clone(m[t.start+i])
	}
	return out, api.OK
}

// Fill returns the elements with some replaced by x.
func Fill(l []api.Form, x api.Form, start, end int) ([]api.Form, api.Errno) {
	if e := sizeError(l); e != api.OK {
		return nil, e
	}
	s, e := spanOf(start, end, len(l))
	if e != api.OK {
		return nil, e
	}
	out := cloneAll(l)
	for i := range s.indices(false) {
		out[i] = clone(x)
	}
	return out, api.OK
}

// Reverse returns the elements in the opposite order.
func Reverse(l []api.Form) ([]api.Form, api.Errno) {
	if e := sizeError(l); e != api.OK {
		return nil, e
	}
	var out []api.Form
	for i := range (span{0, len(l)}).indices(true) {
		out = append(out, clone(l[i]))
	}
	return out, api.OK
}
