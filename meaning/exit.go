package meaning

import (
	"commonform/api"
	"commonform/heap"
	"commonform/lib"
)

// exit is a way out: to a frame, or out of the run.
type exit struct {
	to      int // the index of the frame; -1: out of the run
	values  []heap.Word
	segment int // of a tagbody, with which it goes on
	end     lib.End
}

// faulty is the exit of a run that ends with a fault.
func faulty(f lib.Fault) exit { return exit{to: -1, end: lib.End{Kind: lib.EndFault, Fault: f}} }

// leave hands an exit from frame to frame, up to the one to which it leads.
func (r *run) leave(x exit) {
	for len(r.frames)-1 > x.to {
		last := r.frames[len(r.frames)-1]
		r.pop()
		switch f := last.(type) {
		case *bindFrame:
			r.restore(f)
		case *protectFrame:
			r.push(&cleanupFrame{exit: &x})
			r.goOn(f.cleanup, f.env)
			return
		}
	}
	if x.to < 0 {
		r.finish(x.end)
		return
	}
	if f, ok := r.frames[x.to].(*tagbodyFrame); ok {
		r.goOn(&f.node.Kids[x.segment], f.env)
		f.next = x.segment + 1
		return
	}
	r.pop()
	r.give(x.values...)
}

// target returns the index of the innermost frame of which something is true, -1 if there is none.
func (r *run) target(is func(f frame) bool) int {
	for i := len(r.frames) - 1; i >= 0; i-- {
		if is(r.frames[i]) {
			return i
		}
	}
	return -1
}

// lost ends the run, or makes a fault, since nothing is there to which an exit could lead.
func (r *run) lost(isOwn bool, data ...heap.Word) {
	if r.isPart && !isOwn {
		r.s.crossed = true
		r.finish(crossed())
		return
	}
	r.fault(lib.Fault{Type: "CONTROL-ERROR", Data: data})
}

func crossed() lib.End { return lib.End{Kind: lib.EndLimit, Code: ErrCross} }

func (r *run) returnFrom(id heap.Word, values []heap.Word) {
	to := r.target(func(f frame) bool {
		b, ok := f.(*blockFrame)
		return ok && b.id == id
	})
	if to < 0 {
		r.lost(r.isOwn(id))
		return
	}
	r.leave(exit{to: to, values: values})
}

func (r *run) goTo(id heap.Word, tag int) {
	segment := 0
	to := r.target(func(f frame) bool {
		t, ok := f.(*tagbodyFrame)
		if !ok || t.id != id {
			return false
		}
		for i, n := range t.node.Vars {
			if n == tag {
				segment = i + 1
			}
		}
		return true
	})
	if to < 0 {
		r.lost(r.isOwn(id))
		return
	}
	r.leave(exit{to: to, segment: segment})
}

func (r *run) throw(tag heap.Word, values []heap.Word) {
	to := r.target(func(f frame) bool {
		c, ok := f.(*catchFrame)
		return ok && r.isEql(c.tag, tag)
	})
	if to < 0 {
		r.lost(false, tag)
		return
	}
	r.leave(exit{to: to, values: values})
}

// isEql reports whether two words are the same, or equal numbers. (Equal characters and fixnums are the same word.)
func (r *run) isEql(a, b heap.Word) bool {
	kind := r.h.Kind(a)
	if a == b || kind != r.h.Kind(b) || kind < heap.KindInt || kind > heap.KindComplex {
		return a == b
	}
	if kind == heap.KindComplex {
		return r.isEqlPart(a, b, 0) && r.isEqlPart(a, b, 1)
	}
	x, e := r.h.Bytes(a)
	y, f := r.h.Bytes(b)
	return e == api.OK && f == api.OK && x == y
}

// isEqlPart compares parts of complex numbers, which are real numbers.
func (r *run) isEqlPart(a, b heap.Word, i int) bool {
	x, y := r.field(a, i), r.field(b, i)
	return x == y || r.h.Kind(x) != heap.KindComplex && r.isEql(x, y)
}

// bindSymbols gives symbols values for the time of a body.
func (r *run) bindSymbols(c *api.Core, env *environment, values []heap.Word) {
	var symbols []heap.Word
	for _, f := range c.Syms {
		symbol, ok := r.symbol(f)
		if !ok {
			return
		}
		symbols = append(symbols, symbol)
	}
	r.rebind(symbols, values, &c.Kids[len(c.Syms)], env)
}

// progv does the same with the elements of lists.
func (r *run) progv(c *api.Core, env *environment, symbols, values heap.Word) {
	var lists [2][]heap.Word
	for i, x := range [2]heap.Word{symbols, values} {
		l, ok := r.elements(x)
		if !ok {
			r.wrongType(x, "LIST")
			return
		}
		lists[i] = l
	}
	for _, x := range lists[0] {
		if r.h.Kind(x) != heap.KindSymbol {
			r.wrongType(x, "SYMBOL")
			return
		}
	}
	r.rebind(lists[0], lists[1], &c.Kids[2], env)
}

// elements returns the elements of a proper list, and whether it is one.
func (r *run) elements(l heap.Word) ([]heap.Word, bool) {
	var out []heap.Word
	met := map[heap.Word]bool{}
	for r.h.Kind(l) == heap.KindCons && !met[l] {
		met[l] = true
		out = append(out, r.field(l, 0))
		l = r.field(l, 1)
	}
	return out, l == heap.Nil
}

// rebind gives symbols values, as long as there are any, and begins a body.
func (r *run) rebind(symbols, values []heap.Word, body *api.Core, env *environment) {
	f := &bindFrame{symbols: symbols}
	for _, x := range symbols {
		saved, e := r.w.Value(x)
		if !r.check(e) {
			return
		}
		if r.w.SetValue(x, saved) == api.ErrArg { // a constant
			r.fault(lib.Fault{Type: "PROGRAM-ERROR", Data: []heap.Word{x}})
			return
		}
		f.saved = append(f.saved, saved)
	}
	if !r.push(f) {
		return
	}
	for i, x := range symbols {
		value := heap.Unbound
		if i < len(values) {
			value = values[i]
		}
		r.w.SetValue(x, value)
	}
	r.goOn(body, env)
}

// restore gives symbols back what they had, the last one first.
func (r *run) restore(f *bindFrame) {
	for i := len(f.symbols) - 1; i >= 0; i-- {
		r.w.SetValue(f.symbols[i], f.saved[i])
	}
}

func (r *run) wrongType(x heap.Word, name string) {
	if symbol, ok := r.lisp(name); ok {
		r.fault(lib.Fault{Type: "TYPE-ERROR", Data: []heap.Word{x, symbol}})
	}
}

// fault calls the function of %FAULT, which may leave, and otherwise ends the run.
func (r *run) fault(f lib.Fault) {
	symbol, e := r.w.Symbol(commonLisp, "%FAULT")
	if e != api.ErrFull && !r.check(e) {
		return
	}
	function, _ := r.w.Function(symbol) // of no symbol, for which the table has no room, none
	if !r.isFunction(function) {
		r.leave(faulty(f))
		return
	}
	kind, ok := r.lisp(f.Type)
	if !ok {
		return
	}
	data := r.list(f.Data)
	if r.end == nil && r.push(&faultFrame{f}) {
		r.apply(function, []heap.Word{kind, data})
	}
}

func (r *run) isFunction(x heap.Word) bool {
	switch r.h.Kind(x) {
	case heap.KindBuiltin, heap.KindClosure, heap.KindCode:
		return true
	}
	return false
}
