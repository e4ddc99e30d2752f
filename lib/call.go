package lib

import (
	"maps"
	"slices"
	"strings"

	"commonform/api"
	"commonform/heap"
	"commonform/symbols"
)

// row says of a builtin function what it takes, in the notation of the document: letters of types, those of arguments that may be left out in brackets, and two points behind one of which there are any number.
type row struct{ name, takes string }

// signature says how many arguments a function takes, and their types by letters.
type signature struct {
	least, most int    // most -1: any number
	first       string // of the first arguments
	rest, last  byte   // of all further ones, and of the last one, where it has another type
}

// anything is the letter of any object.
const anything = 'x'

func (r row) signature() signature {
	out := signature{rest: anything}
	for _, x := range strings.Fields(r.takes) {
		switch {
		case strings.HasSuffix(x, ".."):
			out.most, out.rest = -1, x[0]
		case x[0] == '[':
			out.first += x[1:2]
			out.most++
		case out.most < 0: // behind any number of arguments
			out.last = x[0]
			out.least++
		default:
			out.first += x
			out.least++
			out.most++
		}
	}
	return out
}

func (s signature) takes(n int) bool { return n >= s.least && (n <= s.most || s.most == -1) }

// letter returns the type of the argument i of n.
func (s signature) letter(i, n int) byte {
	switch {
	case i == n-1 && s.last != 0:
		return s.last
	case i < len(s.first):
		return s.first[i]
	}
	return s.rest
}

// builtin is a builtin function of a world.
type builtin struct {
	name string
	signature
	do func(args []heap.Word) Answer
}

// operation makes the values of a builtin function. It panics with an Answer where there are none.
type operation func(args []heap.Word) []heap.Word

func answering(do operation) func(args []heap.Word) Answer {
	return func(args []heap.Word) Answer { return Answer{Values: do(args)} }
}

// rows returns the rows of all tables, in order.
func rows() []row {
	return slices.Concat(consRows(), kindRows(), numberRows(), symbolRows(), textRows(), arrayRows(), otherRows())
}

// operations returns the operations of all builtin functions by their names.
func (w *World) operations() map[string]operation {
	out := map[string]operation{}
	for _, m := range []map[string]operation{w.consOperations(), w.kindOperations(), w.numberOperations(), w.symbolOperations(), w.textOperations(), w.arrayOperations(), w.otherOperations()} {
		maps.Copy(out, m)
	}
	return out
}

// Names returns the names of all builtin functions, in order.
func Names() []string {
	var out []string
	for _, r := range rows() {
		out = append(out, r.name)
	}
	return out
}

// Arity returns how many arguments a builtin function takes, at least and at most (-1: any number).
func Arity(name string) (least, most int, e api.Errno) {
	for _, r := range rows() {
		if r.name == name {
			s := r.signature()
			return s.least, s.most, api.OK
		}
	}
	return 0, 0, api.ErrNone
}

// Call calls a function.
func (w *World) Call(function heap.Word, args []heap.Word) (out Answer) {
	if w.isNone() {
		return limited(api.ErrArg)
	}
	isWrong := func(x heap.Word) bool { return !w.isRight(x) }
	if isWrong(function) || slices.ContainsFunc(args, isWrong) {
		return limited(heap.ErrWord)
	}
	defer func() {
		x := recover()
		if x == nil {
			return
		}
		a, ok := x.(Answer)
		if !ok { // of a function that was registered
			a = limited(api.ErrArg)
		}
		out = a
	}()
	return w.call(function, slices.Clone(args))
}

// call is like Call, but panics with faults, limits, and calls that are not its own.
func (w *World) call(function heap.Word, args []heap.Word) Answer {
	function = w.resolved(function)
	switch w.heap.Kind(function) {
	case heap.KindClosure, heap.KindCode:
		panic(Answer{Kind: AnswerNext, Function: function, Values: args})
	case heap.KindBuiltin:
		if i, ok := w.field(function, 0).Fixnum(); ok && i >= 0 && i < int64(len(w.builtins)) {
			return w.perform(w.builtins[i], args)
		}
	}
	panic(w.wrongType(function, "FUNCTION"))
}

// resolved returns the function of a symbol; all other words as they are.
func (w *World) resolved(x heap.Word) heap.Word {
	met := map[heap.Word]bool{}
	for w.isSymbol(x) && !met[x] {
		met[x] = true
		f := w.field(x, symbolFunction)
		if f == heap.Unbound {
			panic(fault("UNDEFINED-FUNCTION", x))
		}
		x = f
	}
	return x
}

// perform calls a builtin function with arguments that it takes.
func (w *World) perform(b builtin, args []heap.Word) Answer {
	if !b.takes(len(args)) {
		panic(fault("PROGRAM-ERROR", w.lisp(b.name)))
	}
	for i, x := range args {
		if letter := b.letter(i, len(args)); !w.isOf(x, letter) {
			panic(w.wrongType(x, typeOf(letter)))
		}
	}
	return b.do(args)
}

// Register adds a builtin function.
func (w *World) Register(name string, least, most int, f func(args []heap.Word) Answer) api.Errno {
	if w.isNone() {
		return api.ErrArg
	}
	if slices.ContainsFunc(w.builtins, func(b builtin) bool { return b.name == name }) {
		return api.ErrTwice
	}
	if f == nil || least < 0 {
		return api.ErrArg
	}
	if e := w.mayDefine(name); e != api.OK {
		return e
	}
	if e := w.define(name, len(w.builtins)); e != api.OK {
		return e
	}
	number, _, _ := w.table.Find(commonLisp, name)
	w.table.Export(commonLisp, number)
	w.builtins = append(w.builtins, builtin{name, signature{least: least, most: most, rest: anything}, f})
	return api.OK
}

// mayDefine returns the error that comes of defining a function, so that nothing is changed ahead of it.
func (w *World) mayDefine(name string) api.Errno {
	const functionSize = 2
	number, status, e := w.table.Find(commonLisp, name)
	size := symbolSize(name)
	if status != symbols.None {
		size = w.missing(number)
	}
	switch {
	case e != api.OK:
		return e
	case status == symbols.None && w.isFull(1):
		return api.ErrFull
	case !w.hasRoom(size + functionSize):
		return api.ErrWords
	case status != symbols.External && w.clashes(name, number):
		return symbols.ErrClash
	}
	return api.OK
}

// clashes reports whether another symbol with a name is accessible where that of COMMON-LISP would be inherited.
func (w *World) clashes(name string, number int) bool {
	pack, _ := w.table.Package(commonLisp)
	for _, user := range pack.UsedBy {
		n, status, _ := w.table.Find(user, name)
		other, _ := w.table.Package(user)
		if status != symbols.None && n != number && !slices.Contains(other.Shadowing, n) {
			return true
		}
	}
	return false
}

// fault returns the answer that is a fault.
func fault(kind string, data ...heap.Word) Answer {
	return Answer{Kind: AnswerFault, Fault: Fault{Type: kind, Data: data}}
}

// limited returns the answer that is a limit.
func limited(e api.Errno) Answer { return Answer{Kind: AnswerLimit, Code: e} }

// wrongType returns the fault of an object that is not of a type.
func (w *World) wrongType(x heap.Word, name string) Answer {
	return fault("TYPE-ERROR", x, w.lisp(name))
}

// must panics if there is no room, or another limit is reached.
func must(e api.Errno) {
	if e != api.OK {
		panic(limited(e))
	}
}

// lisp returns the symbol of COMMON-LISP with a name.
func (w *World) lisp(name string) heap.Word {
	x, e := w.Symbol(commonLisp, name)
	must(e)
	return x
}

// made returns an object that was made, for which there must have been room; a heap takes too large ones for wrong arguments.
func made(x heap.Word, e api.Errno) heap.Word {
	if e != api.OK {
		panic(limited(api.ErrWords))
	}
	return x
}

// make makes an object with fields.
func (w *World) make(kind int, fields ...heap.Word) heap.Word {
	x := made(w.heap.New(kind, len(fields)))
	for i, y := range fields {
		w.heap.Set(x, i, y)
	}
	return x
}

// text makes an object with bytes.
func (w *World) text(kind int, bytes string) heap.Word { return made(w.heap.Raw(kind, bytes)) }

// list makes a list with a tail.
func (w *World) list(l []heap.Word, tail heap.Word) heap.Word {
	for _, x := range slices.Backward(l) {
		tail = w.make(heap.KindCons, x, tail)
	}
	return tail
}

// truth returns T or NIL.
func (w *World) truth(b bool) heap.Word {
	if b {
		return w.lisp("T")
	}
	return heap.Nil
}

// one returns a word as the only value.
func one(x heap.Word) []heap.Word { return []heap.Word{x} }

// fixnum returns a number that is small enough for one.
func fixnum(n int) heap.Word {
	x, _ := heap.Fix(int64(n))
	return x
}
