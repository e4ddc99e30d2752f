package meaning

import (
	"commonform/api"
	"commonform/heap"
	"commonform/lib"
)

// frame is what is still to be done with values.
type frame interface{ isFrame() }

type (
	// collectFrame collects the values of kids that are cut.
	collectFrame struct {
		node   *api.Core
		env    *environment
		wanted int
		values []heap.Word
	}
	// argumentsFrame collects all values of the forms of a CoreValuesCall.
	argumentsFrame struct {
		node     *api.Core
		env      *environment
		function heap.Word
		next     int
		values   []heap.Word
	}
	// sequenceFrame drops values up to the last kid.
	sequenceFrame struct {
		node *api.Core
		env  *environment
		next int
	}
	// firstFrame keeps the values of the first kid.
	firstFrame struct {
		node   *api.Core
		env    *environment
		next   int
		values []heap.Word
	}
	// parameterFrame waits for the value of an init.
	parameterFrame struct{ *binder }
	// returnFrame waits for the values that end a run of a block.
	returnFrame struct{ id heap.Word }
	// throwFrame waits for the values that end a catch.
	throwFrame struct{ tag heap.Word }
	// blockFrame is a run of a block.
	blockFrame struct{ id heap.Word }
	// catchFrame is a catch that is running.
	catchFrame struct{ tag heap.Word }
	// tagbodyFrame is a run of a tagbody.
	tagbodyFrame struct {
		node *api.Core
		env  *environment
		id   heap.Word
		next int
	}
	// bindFrame has what symbols had ahead of their bindings.
	bindFrame struct{ symbols, saved []heap.Word }
	// protectFrame has a cleanup form.
	protectFrame struct {
		cleanup *api.Core
		env     *environment
	}
	// cleanupFrame has what goes on behind a cleanup form: values, or an exit.
	cleanupFrame struct {
		values []heap.Word
		exit   *exit
	}
	// faultFrame has the fault for which a function is called, and which ends the run if this returns.
	faultFrame struct{ fault lib.Fault }
)

func (*collectFrame) isFrame()   {}
func (*argumentsFrame) isFrame() {}
func (*sequenceFrame) isFrame()  {}
func (*firstFrame) isFrame()     {}
func (*parameterFrame) isFrame() {}
func (*returnFrame) isFrame()    {}
func (*throwFrame) isFrame()     {}
func (*blockFrame) isFrame()     {}
func (*catchFrame) isFrame()     {}
func (*tagbodyFrame) isFrame()   {}
func (*bindFrame) isFrame()      {}
func (*protectFrame) isFrame()   {}
func (*cleanupFrame) isFrame()   {}
func (*faultFrame) isFrame()     {}

// resume gives the values to the last frame.
func (r *run) resume(last frame) {
	switch f := last.(type) {
	case *collectFrame:
		f.values = append(f.values, first(r.values))
		if len(f.values) < f.wanted {
			r.goOn(&f.node.Kids[len(f.values)], f.env)
			return
		}
		r.pop()
		r.collected(f.node, f.env, f.values)
	case *argumentsFrame:
		f.values = append(f.values, r.values...)
		if f.next < len(f.node.Kids) {
			r.goOn(&f.node.Kids[f.next], f.env)
			f.next++
			return
		}
		r.pop()
		r.apply(f.function, f.values)
	case *sequenceFrame:
		r.goOn(&f.node.Kids[f.next], f.env)
		f.next++
		if f.next == len(f.node.Kids) {
			r.pop()
		}
	case *firstFrame:
		r.resumeFirst(f)
	case *parameterFrame:
		r.pop()
		f.bind(r, first(r.values), false)
		f.goOn(r)
	case *tagbodyFrame:
		if f.next < len(f.node.Kids) {
			r.goOn(&f.node.Kids[f.next], f.env)
			f.next++
			return
		}
		r.pop()
		r.give(heap.Nil)
	default:
		r.resumeExit(last)
	}
}

func (r *run) resumeFirst(f *firstFrame) {
	if f.next == 0 {
		f.values = r.values
	}
	f.next++
	if f.next < len(f.node.Kids) {
		r.goOn(&f.node.Kids[f.next], f.env)
		return
	}
	r.pop()
	r.give(f.values...)
}

// resumeExit gives the values to a frame that has to do with exits.
func (r *run) resumeExit(last frame) {
	r.pop()
	switch f := last.(type) {
	case *returnFrame:
		r.returnFrom(f.id, r.values)
	case *throwFrame:
		r.throw(f.tag, r.values)
	case *bindFrame:
		r.restore(f)
	case *protectFrame:
		r.push(&cleanupFrame{values: r.values})
		r.goOn(f.cleanup, f.env)
	case *cleanupFrame:
		r.give(f.values...)
		if f.exit != nil {
			r.leave(*f.exit)
		}
	case *faultFrame:
		r.leave(faulty(f.fault))
	}
}
