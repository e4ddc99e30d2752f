package array

import (
	"iter"
	"slices"
	"strconv"
	"strings"

	"commonform/api"
	"commonform/forms"
)

// subscripts walks the subscripts of all elements in row-major order, with their indices.
func subscripts(dims []int) iter.Seq2[int, []int] {
	return func(yield func(int, []int) bool) {
		for i := range total(dims) {
			if !yield(i, split(dims, i)) {
				return
			}
		}
	}
}

// split returns the subscripts of an index of an element.
func split(dims []int, index int) []int {
	at := make([]int, len(dims))
	for i, d := range slices.Backward(dims) {
		at[i] = index % d
		index /= d
	}
	return at
}

// index returns the row-major index of subscripts, and whether there is such an element.
func index(dims, at []int) (int, bool) {
	n := 0
	for i, d := range dims {
		if at[i] < 0 || at[i] >= d {
			return 0, false
		}
		n = n*d + at[i]
	}
	return n, true
}

// Subscripts returns the subscripts of a row-major index.
func Subscripts(dims []int, index int) ([]int, api.Errno) {
	if e := dimsError(dims); e != api.OK {
		return nil, e
	}
	if index < 0 || index >= total(dims) {
		return nil, api.ErrRange
	}
	return split(dims, index), api.OK
}

// Index returns the row-major index of some subscripts.
func (r *Room) Index(a int, at []int) (int, api.Errno) {
	o, e := r.find(a)
	if e != api.OK {
		return 0, e
	}
	if len(at) != len(o.Dims) {
		return 0, ErrRank
	}
	n, ok := index(o.Dims, at)
	if !ok {
		return 0, api.ErrRange
	}
	return n, api.OK
}

// Where returns in which array, and at which index, an element lies.
func (r *Room) Where(a, index int) (array, at int, e api.Errno) {
	o, e := r.find(a)
	if e != api.OK {
		return 0, 0, e
	}
	if index < 0 || index >= total(o.Dims) {
		return 0, 0, api.ErrRange
	}
	array, at = r.where(a, index)
	return array, at, api.OK
}

// where follows an element to the array of which it is an own one.
func (r *Room) where(a, index int) (array, at int) {
	o := r.arrays[a]
	if o.Target == none {
		return a, index
	}
	return r.where(o.Target, o.Offset+index)
}

func (r *Room) get(a, index int) api.Form {
	array, at := r.where(a, index)
	return r.arrays[array].own[at]
}

// put takes x over as it is.
func (r *Room) put(a, index int, x api.Form) {
	array, at := r.where(a, index)
	r.arrays[array].own[at] = x
}

// Get returns an element by its row-major index.
func (r *Room) Get(a, index int) (api.Form, api.Errno) {
	if _, _, e := r.Where(a, index); e != api.OK {
		return api.Form{}, e
	}
	return clone(r.get(a, index)), api.OK
}

// Set changes an element by its row-major index.
func (r *Room) Set(a, index int, x api.Form) api.Errno {
	if _, _, e := r.Where(a, index); e != api.OK {
		return e
	}
	if e := elementError(r.arrays[a].Bits, x); e != api.OK {
		return e
	}
	r.put(a, index, clone(x))
	return api.OK
}

// Contents returns all elements in row-major order.
func (r *Room) Contents(a int) ([]api.Form, api.Errno) {
	if _, e := r.find(a); e != api.OK {
		return nil, e
	}
	return cloneAll(r.contents(a)), api.OK
}

func (r *Room) contents(a int) []api.Form {
	var out []api.Form
	for i := range r.arrays[a].length() {
		out = append(out, r.get(a, i))
	}
	return out
}

// Form returns the form of an array.
func (r *Room) Form(a int) (api.Form, api.Errno) {
	o, e := r.find(a)
	if e != api.OK {
		return api.Form{}, e
	}
	f := api.Form{Kind: api.FormVector, Kids: r.contents(a)}
	switch {
	case len(o.Dims) != 1:
		f.Kind, f.Text = api.FormArray, text(o.Dims)
	case o.Bits:
		f = api.Form{Kind: api.FormBits, Text: bits(f.Kids)}
	}
	if e := forms.Check(f); e != api.OK {
		return api.Form{}, e
	}
	return clone(f), api.OK
}

// text returns dimensions as the text of a FormArray.
func text(dims []int) string {
	var l []string
	for _, d := range dims {
		l = append(l, strconv.Itoa(d))
	}
	return strings.Join(l, " ")
}

// bits returns elements as the text of a FormBits.
func bits(l []api.Form) string {
	var out strings.Builder
	for _, x := range l {
		out.WriteString(x.Text)
	}
	return out.String()
}

// clone returns a form of its own memory.
func clone(f api.Form) api.Form {
	f.Kids = cloneAll(f.Kids)
	return f
}

func cloneAll(l []api.Form) []api.Form {
	var out []api.Form
	for _, f := range l {
		out = append(out, clone(f))
	}
	return out
}
