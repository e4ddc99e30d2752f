package sequence

import "commonform/api"

// looked is what options look at of a sequence: a range, and the signs of the keys in it.
type looked struct {
	span
	signs []string
}

func look(l []api.Form, o Options) (looked, api.Errno) {
	s, e := o.span(len(l))
	if e != api.OK {
		return looked{}, e
	}
	signs, e := signsOf(o.Test, o.Key, l[s.start:s.end])
	return looked{s, signs}, e
}

// sign returns the sign of an element by its index in the sequence.
func (k looked) sign(index int) string { return k.signs[index-k.start] }

// taken returns the indices of the elements that are taken, in the direction in which options look.
func taken(x api.Form, l []api.Form, o Options) ([]int, api.Errno) {
	if e := sizeError(l); e != api.OK {
		return nil, e
	}
	k, e := look(l, o)
	if e != api.OK {
		return nil, e
	}
	wanted := signs()[o.Test](x)
	var out []int
	for i := range k.indices(o.FromEnd) {
		if (k.sign(i) == wanted) != o.Not {
			out = append(out, i)
		}
	}
	return out, api.OK
}

// Find returns the element that is like x.
func Find(x api.Form, l []api.Form, o Options) (api.Form, api.Errno) {
	found, e := taken(x, l, o)
	if e != api.OK {
		return api.Form{}, e
	}
	if len(found) == 0 {
		return api.Form{}, api.ErrNone
	}
	return clone(l[found[0]]), api.OK
}

// Position returns the index of the element that is like x, or -1.
func Position(x api.Form, l []api.Form, o Options) (int, api.Errno) {
	found, e := taken(x, l, o)
	if e != api.OK {
		return 0, e
	}
	if len(found) == 0 {
		return -1, api.OK
	}
	return found[0], api.OK
}

// Count returns how many elements are like x.
func Count(x api.Form, l []api.Form, o Options) (int, api.Errno) {
	found, e := taken(x, l, o)
	return len(found), e
}

// Search returns where a sequence stands in another one, or -1.
func Search(part, l []api.Form, o Options) (int, api.Errno) {
	if e := sizeError(part, l); e != api.OK {
		return 0, e
	}
	if _, e := o.span(len(l)); e != api.OK { // ahead of the errors of part's keys, which come ahead of those of l
		return 0, e
	}
	wanted, e := signsOf(o.Test, o.Key, part)
	if e != api.OK {
		return 0, e
	}
	k, e := look(l, o)
	if e != api.OK {
		return 0, e
	}
	places := span{k.start, k.end - len(part) + 1}
places:
	for at := range places.indices(o.FromEnd) {
		for i, s := range wanted {
			if k.sign(at+i) != s {
				continue places
			}
		}
		return at, api.OK
	}
	return -1, api.OK
}

// Mismatch returns where two sequences begin to differ, or -1.
func Mismatch(a, b []api.Form, o Options) (int, api.Errno) {
	if e := sizeError(a, b); e != api.OK {
		return 0, e
	}
	if e := o.valueError(); e != api.OK {
		return 0, e
	}
	x, e := signsOf(o.Test, o.Key, a)
	if e != api.OK {
		return 0, e
	}
	y, e := signsOf(o.Test, o.Key, b)
	if e != api.OK {
		return 0, e
	}
	for i := range max(len(x), len(y)) {
		if i >= len(x) || i >= len(y) || x[i] != y[i] {
			return i, api.OK
		}
	}
	return -1, api.OK
}
