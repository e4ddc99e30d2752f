package array

import (
	"slices"

	"commonform/api"
)

// keep lets a fill pointer as it is.
const keep = -2

// Adjust gives an array other dimensions.
func (r *Room) Adjust(a int, dims []int, fill int, initial api.Form) api.Errno {
	o, e := r.reshaped(a, dims)
	if e != api.OK {
		return e
	}
	switch {
	case fill != keep && (fill == none) != (o.Fill == none):
		return ErrFill
	case fill < keep:
		return api.ErrRange
	case fill != keep:
		o.Fill = fill
	}
	if o.Fill != none && o.Fill > dims[0] {
		return api.ErrRange
	}
	if e := elementError(o.Bits, initial); e != api.OK {
		return e
	}
	o.Target, o.Offset = none, 0
	o.own = r.moved(a, dims, clone(initial))
	return r.replace(a, o)
}

// reshaped returns the array with other dimensions, or the first error of changing it so.
func (r *Room) reshaped(a int, dims []int) (object, api.Errno) {
	o, e := r.find(a)
	if e != api.OK {
		return object{}, e
	}
	if !o.Adjustable {
		return object{}, api.ErrArg
	}
	if e := dimsError(dims); e != api.OK {
		return object{}, e
	}
	if len(dims) != len(o.Dims) {
		return object{}, ErrRank
	}
	o.Dims = slices.Clone(dims)
	return o, api.OK
}

// moved returns the elements of an array as they lie in other dimensions; initial is what is new.
func (r *Room) moved(a int, dims []int, initial api.Form) []api.Form {
	out := slices.Repeat([]api.Form{initial}, total(dims))
	for i, at := range subscripts(dims) {
		if before, ok := index(r.arrays[a].Dims, at); ok {
			out[i] = r.get(a, before)
		}
	}
	return out
}

// replace changes an array, and puts it back if one that shows it does not fit any more.
func (r *Room) replace(a int, o object) api.Errno {
	before := r.arrays[a]
	r.arrays[a] = o
	for _, x := range r.arrays {
		if x.Target == a && !fits(x.Array, o.Array) {
			r.arrays[a] = before
			return api.ErrSize
		}
	}
	return api.OK
}

// Displace makes an array show the elements of another one.
func (r *Room) Displace(a int, dims []int, target, offset int) api.Errno {
	o, e := r.reshaped(a, dims)
	if e != api.OK {
		return e
	}
	if _, e := r.find(target); e != api.OK {
		return e
	}
	if r.shows(target, a) {
		return api.ErrOrder
	}
	o.Target, o.Offset, o.own = target, offset, nil
	if e := r.targetError(o.Array); e != api.OK {
		return e
	}
	if o.Fill != none && o.Fill > dims[0] {
		return api.ErrRange
	}
	return r.replace(a, o)
}

// shows reports whether an array is another one, or displaced to it, directly or through others.
func (r *Room) shows(a, other int) bool {
	if a == other {
		return true
	}
	target := r.arrays[a].Target
	return target != none && r.shows(target, other)
}

// SetFill changes a fill pointer.
func (r *Room) SetFill(a, fill int) api.Errno {
	o, e := r.stack(a)
	if e != api.OK {
		return e
	}
	if fill < 0 || fill > o.Dims[0] {
		return api.ErrRange
	}
	r.arrays[a].Fill = fill
	return api.OK
}

// Push puts an element behind the fill pointer.
func (r *Room) Push(a int, x api.Form, extend int) (int, api.Errno) {
	o, e := r.stack(a)
	if e != api.OK {
		return 0, e
	}
	if e := elementError(o.Bits, x); e != api.OK {
		return 0, e
	}
	if o.Fill == o.Dims[0] {
		if !o.Adjustable || extend == 0 {
			return 0, api.ErrFull
		}
		if e := r.Adjust(a, []int{o.Fill + extend}, keep, x); e != api.OK {
			return 0, e
		}
	}
	r.put(a, o.Fill, clone(x))
	r.arrays[a].Fill++
	return o.Fill, api.OK
}

// Pop takes the element ahead of the fill pointer.
func (r *Room) Pop(a int) (api.Form, api.Errno) {
	o, e := r.stack(a)
	if e != api.OK {
		return api.Form{}, e
	}
	if o.Fill == 0 {
		return api.Form{}, ErrFill
	}
	r.arrays[a].Fill--
	return clone(r.get(a, o.Fill-1)), api.OK
}

// Boole combines two bit arrays into a third one.
func (r *Room) Boole(op, a, b, into int) api.Errno {
	var l [3]object
	for i, n := range [...]int{a, b, into} {
		o, e := r.find(n)
		if e != api.OK {
			return e
		}
		l[i] = o
	}
	switch {
	case op < 0 || op > 15:
		return api.ErrArg
	case !l[0].Bits || !l[1].Bits || !l[2].Bits:
		return ErrBits
	case !slices.Equal(l[0].Dims, l[1].Dims) || !slices.Equal(l[0].Dims, l[2].Dims):
		return ErrRank
	}
	combined := func(x, y api.Form) api.Form {
		place := 0
		if x.Text == "1" {
			place += 2
		}
		if y.Text == "1" {
			place++
		}
		return api.Form{Kind: api.FormInt, Text: [...]string{"0", "1"}[op>>place&1]}
	}
	for i := range total(l[0].Dims) {
		r.put(into, i, combined(r.get(a, i), r.get(b, i)))
	}
	return api.OK
}
