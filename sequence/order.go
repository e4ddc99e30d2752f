package sequence

import (
	"slices"

	"commonform/api"
)

// item is an element with its key.
type item struct{ key, element api.Form }

// itemsOf returns elements with their keys, or ErrType if one has no key, or one that cannot be ordered.
func itemsOf(l []api.Form, o order, key int) ([]item, api.Errno) {
	all, e := keysOf(key, l)
	if e != api.OK {
		return nil, e
	}
	var out []item
	for i, k := range all {
		if !o.has(k) {
			return nil, api.ErrType
		}
		out = append(out, item{k, l[i]})
	}
	return out, api.OK
}

// Sort returns the elements in an order, equal ones as they come.
func Sort(l []api.Form, order, key int) ([]api.Form, api.Errno) {
	if e := sizeError(l); e != api.OK {
		return nil, e
	}
	if !isOneOf(order, orderCount) || !isOneOf(key, keyCount) {
		return nil, api.ErrArg
	}
	o := orders()[order]
	items, e := itemsOf(l, o, key)
	if e != api.OK {
		return nil, e
	}
	return elements(o.sorted(items)), api.OK
}

// Merge returns the elements of two sequences, merged by an order.
func Merge(a, b []api.Form, order, key int) ([]api.Form, api.Errno) {
	if e := sizeError(a, b); e != api.OK {
		return nil, e
	}
	if !isOneOf(order, orderCount) || !isOneOf(key, keyCount) {
		return nil, api.ErrArg
	}
	o := orders()[order]
	x, e := itemsOf(a, o, key)
	if e != api.OK {
		return nil, e
	}
	y, e := itemsOf(b, o, key)
	if e != api.OK {
		return nil, e
	}
	if len(x)+len(y) > api.MaxForm {
		return nil, api.ErrSize
	}
	return elements(o.merged(x, y)), api.OK
}

// sorted merges the sorted halves.
func (o order) sorted(l []item) []item {
	if len(l) < 2 {
		return slices.Clone(l)
	}
	half := len(l) / 2
	return o.merged(o.sorted(l[:half]), o.sorted(l[half:]))
}

func (o order) merged(a, b []item) []item {
	var out []item
	for len(a) > 0 && len(b) > 0 {
		if o.less(b[0].key, a[0].key) {
			out = append(out, b[0])
			b = b[1:]
		} else {
			out = append(out, a[0])
			a = a[1:]
		}
	}
	return slices.Concat(out, a, b)
}

// elements returns the elements of items, in memory of their own.
func elements(l []item) []api.Form {
	var out []api.Form
	for _, x := range l {
		out = append(out, clone(x.element))
	}
	return out
}
