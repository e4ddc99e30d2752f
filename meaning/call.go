package meaning

import (
	"commonform/api"
	"commonform/heap"
	"commonform/lib"
)

// apply calls a function.
func (r *run) apply(function heap.Word, args []heap.Word) {
calls:
	for r.step() {
		switch r.h.Kind(function) {
		case heap.KindClosure:
			r.enter(function, args)
			return
		case heap.KindCode:
			r.applyCode(function, args)
			return
		}
		a := r.call(function, args)
		if r.s.crossed {
			r.finish(crossed())
			return
		}
		switch a.Kind {
		case lib.AnswerNext:
			function, args = a.Function, a.Values
			continue calls
		case lib.AnswerValues:
			r.give(a.Values...)
		case lib.AnswerFault:
			r.fault(a.Fault)
		case lib.AnswerLimit:
			r.finish(lib.End{Kind: lib.EndLimit, Code: a.Code})
		default:
			r.finish(bad(api.ErrArg))
		}
		return
	}
}

// applyCode calls a compiled function by the other road.
func (r *run) applyCode(function heap.Word, args []heap.Word) {
	apply, ok := r.w.Extra(applyExtra).(applier)
	if !ok || apply == nil {
		r.fault(lib.Fault{Type: "CONTROL-ERROR", Data: []heap.Word{function}})
		return
	}
	left := r.limit - r.steps
	end, steps := attempted(apply, function, args, left)
	r.steps += min(max(steps, 0), left)
	r.s.crossed = r.s.crossed || end.Kind == lib.EndLimit && end.Code == ErrCross
	switch {
	case r.s.crossed:
		r.finish(crossed())
	case end.Kind == lib.EndValues:
		r.give(end.Values...)
	case end.Kind == lib.EndFault:
		r.leave(faulty(end.Fault))
	default:
		r.finish(end)
	}
}

// attempted calls a function by the other road, which may panic.
func attempted(apply applier, function heap.Word, args []heap.Word, left int) (end lib.End, steps int) {
	defer func() {
		if recover() != nil {
			end, steps = bad(api.ErrArg), 0
		}
	}()
	return apply(function, args, left)
}

// binder binds the parameters of a closure one by one.
type binder struct {
	lambda *api.Core
	env    *environment
	args   []heap.Word // those that are left for required and optional parameters
	rest   []heap.Word // those behind these
	next   int         // the next parameter
	init   int         // the next init
}

// enter calls a closure.
func (r *run) enter(function heap.Word, args []heap.Word) {
	c, list, ok := r.s.closure(r.h, function)
	if !ok { // its tree is not in this world
		r.fault(lib.Fault{Type: "CONTROL-ERROR", Data: []heap.Word{function}})
		return
	}
	n, ok := r.fits(c, args)
	if !ok {
		r.fault(lib.Fault{Type: "PROGRAM-ERROR", Data: []heap.Word{function}})
		return
	}
	b := &binder{lambda: c, env: listed(list), args: args[:n], rest: args[n:]}
	b.goOn(r)
}

// fits returns how many arguments required and optional parameters take, and whether a lambda takes all of them.
func (r *run) fits(c *api.Core, args []heap.Word) (int, bool) {
	var count [api.ParamKey + 1]int
	for _, p := range c.Pars {
		count[p.Kind]++
	}
	required := count[api.ParamRequired]
	n := min(len(args), required+count[api.ParamOptional])
	hasKeys := count[api.ParamKey] > 0 || c.N == 1
	if len(args) < required || len(args) > n && count[api.ParamRest] == 0 && !hasKeys {
		return 0, false
	}
	return n, !hasKeys || r.fitsKeys(c, args[n:])
}

// fitsKeys reports whether keys and values are those of a lambda.
func (r *run) fitsKeys(c *api.Core, rest []heap.Word) bool {
	if len(rest)%2 != 0 {
		return false
	}
	allow := api.Form{Home: keyword, Text: "ALLOW-OTHER-KEYS"}
	value, isThere := r.keyed(rest, allow)
	isAllowed := c.N == 1 || isThere && value != heap.Nil
	for i := 0; i < len(rest); i += 2 {
		if r.h.Kind(rest[i]) != heap.KindSymbol {
			return false
		}
		isKnown := isAllowed || r.isNamed(rest[i], allow)
		for _, p := range c.Pars {
			isKnown = isKnown || p.Kind == api.ParamKey && r.isNamed(rest[i], p.Key)
		}
		if !isKnown {
			return false
		}
	}
	return true
}

// isNamed reports whether a word is a symbol with a home and a name.
func (r *run) isNamed(x heap.Word, key api.Form) bool {
	home, name, e := r.w.Name(x)
	return e == api.OK && home == key.Home && name == key.Text
}

// keyed returns the value behind the first one of a key.
func (r *run) keyed(rest []heap.Word, key api.Form) (heap.Word, bool) {
	for i := 0; i+1 < len(rest); i += 2 {
		if r.isNamed(rest[i], key) {
			return rest[i+1], true
		}
	}
	return heap.Nil, false
}

// goOn binds parameters up to one whose init is evaluated first, or begins the body.
func (b *binder) goOn(r *run) {
	for b.next < len(b.lambda.Pars) {
		p := b.lambda.Pars[b.next]
		x, ok := b.argument(r, p)
		if !ok {
			r.push(&parameterFrame{b})
			r.goOn(&b.lambda.Kids[b.init], b.env)
			return
		}
		b.bind(r, x, true)
	}
	r.goOn(&b.lambda.Kids[len(b.lambda.Kids)-1], b.env)
}

// argument returns what a parameter is bound to, and whether it is given.
func (b *binder) argument(r *run, p api.Param) (heap.Word, bool) {
	switch p.Kind {
	case api.ParamRest:
		return r.list(b.rest), true
	case api.ParamKey:
		return r.keyed(b.rest, p.Key)
	}
	if len(b.args) == 0 {
		return heap.Nil, false
	}
	x := b.args[0]
	b.args = b.args[1:]
	return x, true
}

// bind binds the next parameter to a value that was given, or that of its init.
func (b *binder) bind(r *run, x heap.Word, given bool) {
	p := b.lambda.Pars[b.next]
	b.env = r.bind(b.env, p.Var, x)
	if p.Given >= 0 {
		b.env = r.bind(b.env, p.Given, r.truth(given))
	}
	b.next++
	if p.Kind == api.ParamOptional || p.Kind == api.ParamKey {
		b.init++
	}
}
