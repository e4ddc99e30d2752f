package meaning

import (
	"commonform/api"
	"commonform/heap"
	"commonform/lib"
)

// run is a run: what is still to be done, and what is done next.
type run struct {
	w      *lib.World
	h      *heap.Heap
	s      *state
	call   func(function heap.Word, args []heap.Word) lib.Answer
	isPart bool  // of another run
	number int64 // of this run
	begun  int64 // how many blocks and tagbodies were
	frames []frame

	steps, limit int

	node   *api.Core // what is begun next; without it the last frame gets the values
	env    *environment
	values []heap.Word
	end    *lib.End
}

// begin returns a new run of a world, which it enters.
func begin(w *lib.World, steps int) *run {
	s := stateOf(w)
	r := &run{w: w, h: w.Heap(), s: s, call: w.Call, isPart: s.depth > 0, number: s.runs, limit: min(max(steps, 0), api.MaxSteps)}
	s.runs++
	s.depth++
	if !r.isPart {
		s.constants = map[*api.Core]heap.Word{}
	}
	return r
}

// leaveWorld ends a run.
func (r *run) leaveWorld() {
	r.s.depth--
	if r.s.depth == 0 {
		r.s.constants, r.s.crossed = nil, false
	}
}

// loop makes one step after the other, and returns how the run ends.
func (r *run) loop() lib.End {
steps:
	for r.end == nil {
		switch node := r.node; {
		case node != nil:
			r.node = nil
			if r.step() {
				r.evaluate(node, r.env)
			}
		case len(r.frames) == 0:
			r.finish(lib.End{Values: r.values})
			break steps
		default:
			r.resume(r.frames[len(r.frames)-1])
		}
	}
	return *r.end
}

// finish ends the run, unless it has ended.
func (r *run) finish(x lib.End) {
	if r.end == nil {
		r.end = &x
	}
}

// step counts a step, and reports whether there is one left.
func (r *run) step() bool {
	if r.steps >= r.limit {
		r.finish(lib.End{Kind: lib.EndLimit, Code: api.ErrSteps})
		return false
	}
	r.steps++
	return true
}

// check ends the run if there is an error, and reports whether there is none.
func (r *run) check(e api.Errno) bool {
	switch e {
	case api.OK:
		return true
	case api.ErrWords:
		r.finish(lib.End{Kind: lib.EndLimit, Code: e})
	default:
		r.finish(bad(e))
	}
	return false
}

// push adds a frame, and reports whether there may be one more.
func (r *run) push(f frame) bool {
	if len(r.frames) >= api.MaxLive {
		r.finish(lib.End{Kind: lib.EndLimit, Code: api.ErrDepth})
		return false
	}
	r.frames = append(r.frames, f)
	return true
}

// cut takes all frames from an index on away.
func (r *run) cut(n int) {
	clear(r.frames[n:])
	r.frames = r.frames[:n]
}

func (r *run) pop() { r.cut(len(r.frames) - 1) }

// goOn begins a node next.
func (r *run) goOn(c *api.Core, env *environment) { r.node, r.env = c, env }

// give gives values to the last frame next.
func (r *run) give(values ...heap.Word) { r.values = values }

// first returns the value that is left of values that are cut.
func first(values []heap.Word) heap.Word {
	if len(values) == 0 {
		return heap.Nil
	}
	return values[0]
}

// symbol returns the object of a symbol of a tree. Where there is none, the run ends.
func (r *run) symbol(f api.Form) (heap.Word, bool) {
	x, e := r.w.Symbol(f.Home, f.Text)
	return x, r.check(e)
}

// lisp returns a symbol of COMMON-LISP likewise.
func (r *run) lisp(name string) (heap.Word, bool) {
	return r.symbol(api.Form{Home: commonLisp, Text: name})
}

// truth returns T or NIL.
func (r *run) truth(b bool) heap.Word {
	if !b {
		return heap.Nil
	}
	x, _ := r.lisp("T")
	return x
}

// mostBegun is more than the number of blocks and tagbodies that a run begins.
const mostBegun = 1 << 20

// fresh returns the number of a new run of a block or a tagbody, which tells the run to which it belongs, too.
func (r *run) fresh() heap.Word {
	x, _ := heap.Fix(r.number*mostBegun + r.begun)
	r.begun++
	return x
}

// isOwn reports whether a block or a tagbody was begun in this run.
func (r *run) isOwn(id heap.Word) bool {
	n, ok := id.Fixnum()
	return ok && n/mostBegun == r.number
}
