package meaning

import (
	"commonform/api"
	"commonform/heap"
	"commonform/lib"
)

// evaluate begins a node.
func (r *run) evaluate(c *api.Core, env *environment) {
	switch c.Op {
	case api.CoreConst:
		r.constant(c)
	case api.CoreVar:
		r.give(r.field(r.find(env, c.N), 0))
	case api.CoreSpecial:
		r.global(c, r.w.Value, "UNBOUND-VARIABLE")
	case api.CoreFunction:
		r.global(c, r.w.Function, "UNDEFINED-FUNCTION")
	case api.CoreLambda:
		r.give(r.closure(c, env))
	case api.CoreSet, api.CoreSetSpecial, api.CoreIf, api.CoreCatch, api.CoreThrow, api.CoreValuesCall:
		r.collect(c, env, 1)
	case api.CoreCall, api.CoreCallGlobal:
		r.collect(c, env, len(c.Kids))
	case api.CoreLet, api.CoreBind:
		r.collect(c, env, len(c.Kids)-1)
	case api.CoreProgv:
		r.collect(c, env, 2)
	case api.CoreLabels:
		r.labels(c, env)
	case api.CoreProgn:
		r.progn(c, env)
	case api.CoreBlock:
		id := r.fresh()
		r.push(&blockFrame{id})
		r.goOn(&c.Kids[0], env.with(blockKeys+c.N, id))
	case api.CoreReturn:
		r.push(&returnFrame{r.find(env, blockKeys+c.N)})
		r.goOn(&c.Kids[0], env)
	case api.CoreTagbody:
		r.tagbody(c, env)
	case api.CoreGo:
		r.goTo(r.find(env, tagKeys+c.N), c.N)
	case api.CoreProtect:
		r.push(&protectFrame{&c.Kids[1], env})
		r.goOn(&c.Kids[0], env)
	case api.CoreValuesFirst:
		r.push(&firstFrame{node: c, env: env})
		r.goOn(&c.Kids[0], env)
	}
}

// constant gives the object of a constant, which is made once in a run.
func (r *run) constant(c *api.Core) {
	x, ok := r.s.constants[c]
	if !ok {
		var e api.Errno
		x, e = r.w.Build(c.Data)
		if !r.check(e) {
			return
		}
		r.s.constants[c] = x
	}
	r.give(x)
}

// global gives the value or the function of a symbol.
func (r *run) global(c *api.Core, get func(symbol heap.Word) (heap.Word, api.Errno), kind string) {
	symbol, ok := r.symbol(c.Data)
	if !ok {
		return
	}
	if x, ok := r.known(symbol, get, kind); ok {
		r.give(x)
	}
}

// known returns the value or the function of a symbol, or makes a fault.
func (r *run) known(symbol heap.Word, get func(symbol heap.Word) (heap.Word, api.Errno), kind string) (heap.Word, bool) {
	x, e := get(symbol)
	if !r.check(e) {
		return 0, false
	}
	if x == heap.Unbound {
		r.fault(lib.Fault{Type: kind, Data: []heap.Word{symbol}})
		return 0, false
	}
	return x, true
}

// closure makes a closure.
func (r *run) closure(c *api.Core, env *environment) heap.Word {
	list, e := r.listOf(env)
	if !r.check(e) {
		return heap.Nil
	}
	index, _ := heap.Fix(int64(r.s.index(c)))
	x, e := r.object(heap.KindClosure, index, list)
	r.check(e)
	return x
}

func (r *run) progn(c *api.Core, env *environment) {
	switch len(c.Kids) {
	case 0:
		r.give(heap.Nil)
		return
	case 1:
	default:
		r.push(&sequenceFrame{c, env, 1})
	}
	r.goOn(&c.Kids[0], env)
}

func (r *run) labels(c *api.Core, env *environment) {
	last := len(c.Kids) - 1
	for _, n := range c.Vars {
		env = r.bind(env, n, heap.Unbound)
	}
	for i, n := range c.Vars {
		if !r.step() {
			return
		}
		r.h.Set(r.find(env, n), 0, r.closure(&c.Kids[i], env))
	}
	r.goOn(&c.Kids[last], env)
}

func (r *run) tagbody(c *api.Core, env *environment) {
	id := r.fresh()
	for _, n := range c.Vars {
		env = env.with(tagKeys+n, id)
	}
	r.push(&tagbodyFrame{c, env, id, 1})
	r.goOn(&c.Kids[0], env)
}

// collect evaluates the first kids of a node, whose values are cut, and then goes on with the node.
func (r *run) collect(c *api.Core, env *environment, n int) {
	if n == 0 {
		r.collected(c, env, nil)
		return
	}
	r.push(&collectFrame{node: c, env: env, wanted: n})
	r.goOn(&c.Kids[0], env)
}

// collected goes on with a node behind the values of its first kids.
func (r *run) collected(c *api.Core, env *environment, values []heap.Word) {
	switch c.Op {
	case api.CoreSet:
		r.h.Set(r.find(env, c.N), 0, values[0])
		r.give(values[0])
	case api.CoreSetSpecial:
		r.setSpecial(c, values[0])
	case api.CoreIf:
		arm := 1
		if values[0] == heap.Nil {
			arm = 2
		}
		r.goOn(&c.Kids[arm], env)
	case api.CoreCall:
		r.apply(values[0], values[1:])
	case api.CoreCallGlobal:
		symbol, ok := r.symbol(c.Data)
		if !ok {
			return
		}
		if f, ok := r.known(symbol, r.w.Function, "UNDEFINED-FUNCTION"); ok {
			r.apply(f, values)
		}
	case api.CoreLet:
		inner := env
		for i, n := range c.Vars {
			inner = r.bind(inner, n, values[i])
		}
		r.goOn(&c.Kids[len(c.Vars)], inner)
	case api.CoreBind:
		r.bindSymbols(c, env, values)
	case api.CoreProgv:
		r.progv(c, env, values[0], values[1])
	case api.CoreCatch:
		r.push(&catchFrame{values[0]})
		r.goOn(&c.Kids[1], env)
	case api.CoreThrow:
		r.push(&throwFrame{values[0]})
		r.goOn(&c.Kids[1], env)
	case api.CoreValuesCall:
		if len(c.Kids) == 1 {
			r.apply(values[0], nil)
			return
		}
		r.push(&argumentsFrame{node: c, env: env, function: values[0], next: 2})
		r.goOn(&c.Kids[1], env)
	}
}

func (r *run) setSpecial(c *api.Core, x heap.Word) {
	symbol, ok := r.symbol(c.Data)
	if !ok {
		return
	}
	e := r.w.SetValue(symbol, x)
	if e == api.ErrArg { // a constant
		r.fault(lib.Fault{Type: "PROGRAM-ERROR", Data: []heap.Word{symbol}})
		return
	}
	if r.check(e) {
		r.give(x)
	}
}
