package meaning

import (
	"commonform/api"
	"commonform/heap"
)

// Keys of environments: variables have their numbers, blocks and tags numbers behind all of those.
const (
	blockKeys = 10000
	tagKeys   = 20000
)

// environment has the cells of variables, and the runs of blocks and tagbodies, the innermost one first. A closure has it as a list in the heap, which is made when it is needed; behind what was bound since a closure was called stands the list of this.
type environment struct {
	key    int
	cell   heap.Word // a box; the number of the run of a block or a tagbody
	up     *environment
	isList bool // the list is made
	list   heap.Word
}

func (e *environment) with(key int, cell heap.Word) *environment {
	return &environment{key: key, cell: cell, up: e}
}

// listed returns the environment that a list in the heap is.
func listed(list heap.Word) *environment { return &environment{key: -1, isList: true, list: list} }

// find returns the cell of a key.
func (r *run) find(e *environment, key int) heap.Word {
	for ; e != nil; e = e.up {
		if e.key == key {
			return e.cell
		}
		if e.key < 0 {
			return r.findListed(e.list, key)
		}
	}
	return heap.Unbound
}

func (r *run) findListed(list heap.Word, key int) heap.Word {
	want, _ := heap.Fix(int64(key))
	for range r.h.Used() { // somebody else may have made it go round
		if r.h.Kind(list) != heap.KindCons {
			break
		}
		entry := r.field(list, 0)
		if r.field(entry, 0) == want {
			return r.field(entry, 1)
		}
		list = r.field(list, 1)
	}
	return heap.Unbound
}

// field returns a field of an object that has it.
func (r *run) field(x heap.Word, i int) heap.Word {
	y, _ := r.h.Get(x, i)
	return y
}

// listOf returns the list of an environment in the heap.
func (r *run) listOf(e *environment) (heap.Word, api.Errno) {
	var rest []*environment
	out := heap.Nil
	for ; e != nil; e = e.up {
		if e.isList {
			out = e.list
			break
		}
		rest = append(rest, e)
	}
	for i := len(rest) - 1; i >= 0; i-- {
		x := rest[i]
		key, _ := heap.Fix(int64(x.key))
		entry, code := r.object(heap.KindCons, key, x.cell)
		if code != api.OK {
			return 0, code
		}
		out, code = r.object(heap.KindCons, entry, out)
		if code != api.OK {
			return 0, code
		}
		x.isList, x.list = true, out
	}
	return out, api.OK
}

// object makes an object.
func (r *run) object(kind int, fields ...heap.Word) (heap.Word, api.Errno) {
	x, e := r.h.New(kind, len(fields))
	if e != api.OK {
		return 0, e
	}
	for i, y := range fields {
		if e := r.h.Set(x, i, y); e != api.OK {
			return 0, e
		}
	}
	return x, api.OK
}

// bind returns the environment in which a variable has a new cell with a value.
func (r *run) bind(e *environment, variable int, x heap.Word) *environment {
	cell, code := r.object(heap.KindBox, x)
	r.check(code)
	return e.with(variable, cell)
}

// list makes a list.
func (r *run) list(l []heap.Word) heap.Word {
	out := heap.Nil
	for i := len(l) - 1; i >= 0; i-- {
		x, e := r.object(heap.KindCons, l[i], out)
		if !r.check(e) {
			return heap.Nil
		}
		out = x
	}
	return out
}
