package format

import (
	"math"
	"strconv"

	"commonform/api"
)

// control returns the parts of a control string that is an argument.
func (r *run) control(s string) []directive {
	items, e := read(s, r.rules)
	if e != api.OK {
		fail(api.ErrForm)
	}
	return items
}

// within performs directives with other arguments, or the same ones.
func (r *run) within(args *arguments, items []directive) end {
	before := r.args
	r.args = args
	e := r.perform(items)
	r.args = before
	return e
}

// recur performs a control string that is an argument. What ends it ends nothing else.
func (r *run) recur(c call) end {
	s := r.args.takeString()
	args := r.args
	if !c.at {
		args = r.args.takeList()
	}
	if r.strings == maxNesting {
		fail(api.ErrFull)
	}
	items := r.control(s)
	r.strings++
	r.within(args, items)
	r.strings--
	return goesOn
}

// convert changes the letters of what is put out in it, also if this was ended.
func (r *run) convert(c call) end {
	start := len(r.out.text)
	e := r.perform(c.parts[0])
	s, _ := Cased(r.out.since(start), c.colon, c.at)
	r.out.put(s)
	return e
}

// choose performs one of several parts.
func (r *run) choose(c call) end {
	switch {
	case c.colon:
		part := 1
		if isNil(r.args.take()) {
			part = 0
		}
		return r.perform(c.parts[part])
	case c.at:
		if isNil(r.args.take()) {
			return goesOn
		}
		r.args.moveTo(r.args.at - 1)
		return r.perform(c.parts[0])
	}
	last := len(c.parts) - 1
	switch n := r.choice(c); {
	case n >= 0 && n <= last:
		return r.perform(c.parts[n])
	case c.hasElse:
		return r.perform(c.parts[last])
	}
	return goesOn
}

// choice returns the number of a part: a parameter or an argument.
func (r *run) choice(c call) int {
	if n, ok := c.given(0); ok {
		return n
	}
	x := r.args.take()
	integerOf(x)
	n, _ := strconv.Atoi(x.Text) // the greatest or the least int for one that is beyond
	return n
}

// iterate performs its part with a list as arguments, or with each list of a list.
func (r *run) iterate(c call) end {
	items, isControl := c.parts[0], len(c.parts[0]) == 0
	s := ""
	if isControl {
		s = r.args.takeString()
	}
	list := r.args.rest()
	if !c.at {
		list = r.args.takeList()
	}
	if isControl {
		items = r.control(s)
	}
	before := r.lists
	if c.colon {
		r.lists = list
	}
	r.times(c, list, items)
	r.lists = before
	if c.at {
		r.args.at += list.at
	}
	return goesOn
}

// times performs an iteration as often as it goes on.
func (r *run) times(c call, list *arguments, items []directive) {
	for n := range c.number(0, math.MaxInt) {
		if list.left() == 0 && !(n == 0 && c.isOnceAtLeast) {
			return
		}
		r.count()
		args := list
		if c.colon {
			args = &arguments{}
			if list.left() > 0 {
				args = list.takeList()
			}
		}
		e := r.within(args, items)
		if e == isAllEnded || e == isEnded && !c.colon {
			return
		}
	}
}

// justify spreads the outputs of its parts over a width; a part that is ended is left out with those behind it.
func (r *run) justify(c call) end {
	start := len(r.out.text)
	var texts []string
	for _, part := range c.parts {
		r.count()
		e := r.perform(part)
		s := r.out.since(start)
		if e != goesOn {
			break
		}
		texts = append(texts, s)
	}
	if len(texts) == 0 {
		return goesOn
	}
	s, e := Justified(texts, c.number(0, 0), c.number(1, 1), c.number(2, 0), c.character(3, ' '), c.colon, c.at)
	if e != api.OK {
		fail(api.ErrFull)
	}
	r.out.put(s)
	return goesOn
}

// escape ends what is performed, if no argument is left, or parameters say so.
func (r *run) escape(c call) end {
	a, b := c.number(0, 0), c.number(1, 0)
	var isMet bool
	switch len(c.params) {
	case 0:
		isMet = !c.colon && r.args.left() == 0 || c.colon && r.lists.left() == 0
	case 1:
		isMet = a == 0
	case 2:
		isMet = a == b
	default:
		isMet = a <= b && b <= c.number(2, 0)
	}
	switch {
	case !isMet:
		return goesOn
	case c.colon:
		return isAllEnded
	}
	return isEnded
}
