package meaning_test

import (
	"math/rand/v2"
	"slices"
	"strconv"
	"strings"
	"testing"

	"commonform/api"
	"commonform/core"
	"commonform/forms"
	"commonform/heap"
	"commonform/lib"
	"commonform/meaning"
	"commonform/printer"
)

// model runs trees by functions that call themselves: exits are panics. Values are ints, symbols as texts, lists, closures, and names of builtin functions.
type model struct {
	values  map[string]any // of special variables
	catches []any          // the tags that are waiting
	output  strings.Builder
	steps   int
	limit   int
}

type (
	builtin string
	closure struct {
		c   api.Core
		env *scope
	}
	scope struct {
		key [2]int
		at  any // a pointer to a value, or a point
		up  *scope
	}
	// point is a run of a block or a tagbody.
	point struct{ ended bool }
	// leaving is a panic on the way to a point, to a catch (its number), or out of the run.
	leaving struct {
		to      *point
		catch   int
		values  []any
		segment int
		fault   string
	}
	limit struct{}
)

func (s *scope) with(kind, n int, x any) *scope { return &scope{[2]int{kind, n}, x, s} }

func (s *scope) find(kind, n int) any {
	for s.key != [2]int{kind, n} {
		s = s.up
	}
	return s.at
}

func cut(values []any) any {
	if len(values) == 0 {
		return []any(nil)
	}
	return values[0]
}

func isNil(x any) bool {
	l, ok := x.([]any)
	return ok && len(l) == 0
}

func text(x any) string {
	switch x := x.(type) {
	case int:
		return strconv.Itoa(x)
	case string:
		return x
	case []any:
		if len(x) == 0 {
			return "nil"
		}
		return "(" + texts(x) + ")"
	case builtin:
		return "%::builtin"
	}
	return "%::closure"
}

func texts(l []any) string {
	var out []string
	for _, x := range l {
		out = append(out, text(x))
	}
	return strings.Join(out, " ")
}

func (m *model) step() {
	if m.steps == m.limit {
		panic(limit{})
	}
	m.steps++
}

func (m *model) fault(kind string, data ...any) {
	panic(leaving{fault: strings.TrimSuffix("! "+kind+" "+texts(data), " ")})
}

// protected runs f, and then always g, but behind a limit.
func (m *model) protected(f func() []any, g func()) (out []any) {
	func() {
		defer func() {
			x := recover()
			if _, ok := x.(limit); ok {
				panic(x)
			}
			g()
			if x != nil {
				panic(x)
			}
		}()
		out = f()
	}()
	return out
}

func (m *model) kids(l []api.Core, e *scope) []any {
	var out []any
	for _, c := range l {
		out = append(out, cut(m.run(c, e)))
	}
	return out
}

func (m *model) run(c api.Core, e *scope) []any {
	m.step()
	one := func(x any) []any { return []any{x} }
	last := len(c.Kids) - 1
	switch c.Op {
	case api.CoreConst:
		return one(datum(c.Data))
	case api.CoreVar:
		return one(*e.find(0, c.N).(*any))
	case api.CoreSet:
		x := cut(m.run(c.Kids[0], e))
		*e.find(0, c.N).(*any) = x
		return one(x)
	case api.CoreSpecial:
		x, ok := m.values[c.Data.Text]
		if !ok {
			m.fault("unbound-variable", strings.ToLower(c.Data.Text))
		}
		return one(x)
	case api.CoreSetSpecial:
		x := cut(m.run(c.Kids[0], e))
		m.values[c.Data.Text] = x
		return one(x)
	case api.CoreFunction:
		return one(builtin(c.Data.Text))
	case api.CoreLambda:
		return one(&closure{c, e})
	case api.CoreCall:
		l := m.kids(c.Kids, e)
		return m.call(l[0], l[1:])
	case api.CoreCallGlobal:
		return m.call(builtin(c.Data.Text), m.kids(c.Kids, e))
	case api.CoreIf:
		if isNil(cut(m.run(c.Kids[0], e))) {
			return m.run(c.Kids[2], e)
		}
		return m.run(c.Kids[1], e)
	case api.CoreProgn:
		out := one([]any(nil))
		for _, kid := range c.Kids {
			out = m.run(kid, e)
		}
		return out
	case api.CoreLet:
		l := m.kids(c.Kids[:last], e)
		for i, n := range c.Vars {
			e = e.with(0, n, &l[i])
		}
		return m.run(c.Kids[last], e)
	case api.CoreLabels:
		cells := make([]any, len(c.Vars))
		for i, n := range c.Vars {
			e = e.with(0, n, &cells[i])
		}
		for i := range c.Vars {
			m.step()
			cells[i] = &closure{c.Kids[i], e}
		}
		return m.run(c.Kids[last], e)
	case api.CoreBind:
		l := m.kids(c.Kids[:last], e)
		var names []string
		for _, s := range c.Syms {
			names = append(names, s.Text)
		}
		return m.bound(names, l, func() []any { return m.run(c.Kids[last], e) })
	case api.CoreProgv:
		l := m.kids(c.Kids[:2], e)
		var names []string
		for _, x := range l[0].([]any) {
			names = append(names, strings.ToUpper(x.(string)))
		}
		return m.bound(names, l[1].([]any), func() []any { return m.run(c.Kids[2], e) })
	case api.CoreProtect:
		return m.protected(func() []any { return m.run(c.Kids[0], e) }, func() { m.run(c.Kids[1], e) })
	case api.CoreValuesCall:
		f := cut(m.run(c.Kids[0], e))
		var args []any
		for _, kid := range c.Kids[1:] {
			args = append(args, m.run(kid, e)...)
		}
		return m.call(f, args)
	case api.CoreValuesFirst:
		out := m.run(c.Kids[0], e)
		for _, kid := range c.Kids[1:] {
			m.run(kid, e)
		}
		return out
	}
	return m.runExit(c, e)
}

func (m *model) runExit(c api.Core, e *scope) (out []any) {
	switch c.Op {
	case api.CoreReturn:
		p := e.find(1, c.N).(*point)
		values := m.run(c.Kids[0], e)
		if p.ended {
			m.fault("control-error")
		}
		panic(leaving{to: p, values: values})
	case api.CoreGo:
		x := e.find(2, c.N).([2]any)
		if x[0].(*point).ended {
			m.fault("control-error")
		}
		panic(leaving{to: x[0].(*point), segment: x[1].(int)})
	case api.CoreThrow:
		tag := cut(m.run(c.Kids[0], e))
		values := m.run(c.Kids[1], e)
		for i := len(m.catches) - 1; i >= 0; i-- {
			if text(m.catches[i]) == text(tag) && !isList(tag) {
				panic(leaving{catch: i + 1, values: values})
			}
		}
		m.fault("control-error", tag)
	case api.CoreBlock:
		p := &point{}
		defer func() { p.ended = true }()
		defer func() {
			x := recover()
			if l, ok := x.(leaving); ok && l.to == p {
				out = l.values
			} else if x != nil {
				panic(x)
			}
		}()
		return m.run(c.Kids[0], e.with(1, c.N, p))
	case api.CoreCatch:
		n := len(m.catches)
		m.catches = append(m.catches, cut(m.run(c.Kids[0], e)))
		defer func() {
			m.catches = m.catches[:n]
			x := recover()
			if l, ok := x.(leaving); ok && l.catch == n+1 {
				out = l.values
			} else if x != nil {
				panic(x)
			}
		}()
		return m.run(c.Kids[1], e)
	}
	return m.tagbody(c, e)
}

func isList(x any) bool {
	_, ok := x.([]any)
	return ok && !isNil(x)
}

func (m *model) tagbody(c api.Core, e *scope) []any {
	p := &point{}
	defer func() { p.ended = true }()
	for i, n := range c.Vars {
		e = e.with(2, n, [2]any{p, i + 1})
	}
	for next := 0; next < len(c.Kids); {
		next = m.segment(c, e, p, next)
	}
	return []any{[]any(nil)}
}

// segment runs a segment, and returns the next one.
func (m *model) segment(c api.Core, e *scope, p *point, i int) (next int) {
	defer func() {
		x := recover()
		if l, ok := x.(leaving); ok && l.to == p {
			next = l.segment
		} else if x != nil {
			panic(x)
		}
	}()
	m.run(c.Kids[i], e)
	return i + 1
}

func (m *model) bound(names []string, values []any, body func() []any) []any {
	saved := map[string]any{}
	for _, name := range names {
		if x, ok := m.values[name]; ok {
			saved[name] = x
		}
	}
	for i, name := range names {
		delete(m.values, name)
		if i < len(values) {
			m.values[name] = values[i]
		}
	}
	return m.protected(body, func() {
		for _, name := range names {
			delete(m.values, name)
			if x, ok := saved[name]; ok {
				m.values[name] = x
			}
		}
	})
}

func (m *model) call(f any, args []any) []any {
	m.step()
	switch f := f.(type) {
	case *closure:
		return m.enter(f, args)
	case builtin:
		switch f {
		case "LIST":
			return []any{slices.Clone(args)}
		case "VALUES":
			return args
		case "PRINC":
			m.output.WriteString(text(args[0]))
			return args[:1]
		case "FUNCALL":
			switch g := args[0].(type) {
			case builtin: // lib answers at once
				m.steps--
				return m.call(g, args[1:])
			case *closure:
				return m.call(g, args[1:])
			case string:
				m.fault("undefined-function", g)
			}
			if isNil(args[0]) {
				m.fault("undefined-function", args[0])
			}
			m.fault("type-error", args[0], "function")
		}
		sum := 0
		for _, x := range args {
			n, ok := x.(int)
			if !ok {
				m.fault("type-error", x, "number")
			}
			sum += n
		}
		return []any{sum}
	}
	m.fault("type-error", f, "function")
	return nil
}

// enter calls a closure with required, optional and rest parameters.
func (m *model) enter(f *closure, args []any) []any {
	least, most := 0, 0
	for _, p := range f.c.Pars {
		switch p.Kind {
		case api.ParamRequired:
			least++
			most++
		case api.ParamOptional:
			most++
		default:
			most = 1 << 30
		}
	}
	if len(args) < least || len(args) > most {
		m.fault("program-error", f)
	}
	e, init := f.env, 0
	bind := func(n int, x any) { e = e.with(0, n, &x) }
	for _, p := range f.c.Pars {
		given := len(args) > 0
		switch {
		case p.Kind == api.ParamRest:
			bind(p.Var, slices.Clone(args))
			continue
		case given:
			bind(p.Var, args[0])
			args = args[1:]
		default:
			bind(p.Var, cut(m.run(f.c.Kids[init], e)))
		}
		if p.Kind == api.ParamOptional {
			init++
		}
		if p.Given >= 0 {
			bind(p.Given, map[bool]any{true: "t", false: []any(nil)}[given])
		}
	}
	return m.run(f.c.Kids[len(f.c.Kids)-1], e)
}

// datum returns the value of a constant.
func datum(f api.Form) any {
	if f.Kind == api.FormInt {
		n, _ := strconv.Atoi(f.Text)
		return n
	}
	if forms.IsNil(f) {
		return []any(nil)
	}
	if l, ok := forms.Items(f); ok {
		var out []any
		for _, x := range l {
			out = append(out, datum(x))
		}
		return out
	}
	return strings.ToLower(f.Text)
}

// modelled returns how a tree ends, and its output.
func modelled(c api.Core, steps int) (out string, m *model) {
	m = &model{values: map[string]any{"S": 0}, limit: steps}
	defer func() {
		switch x := recover().(type) {
		case leaving:
			if x.fault == "" {
				panic(x)
			}
			out = x.fault
		case limit:
			out = "limit 10"
		case nil:
		default:
			panic(x)
		}
	}()
	return texts(m.run(c, nil)), m
}

// writer writes random programs.
type writer struct {
	*rand.Rand
	next int
}

// names has what is in scope.
type names struct{ vars, functions, blocks, tags []string }

func (w *writer) pick(l ...string) string { return l[w.IntN(len(l))] }

func (w *writer) name(prefix string) string {
	w.next++
	return prefix + strconv.Itoa(w.next)
}

func with(l []string, more ...string) []string { return append(slices.Clone(l), more...) }

func (w *writer) form(depth int, n names) string {
	if depth <= 0 {
		return w.leaf(n)
	}
	depth--
	f := func() string { return w.form(depth, n) }
	switch w.IntN(24) {
	case 0, 1:
		return "(list " + f() + " " + f() + ")"
	case 2:
		return "(+ " + f() + " " + f() + ")"
	case 3:
		return "(values " + strings.Repeat(f()+" ", w.IntN(3)) + ")"
	case 4, 5:
		v := w.name("v")
		inner := n
		inner.vars = with(n.vars, v)
		return "(let ((" + v + " " + f() + ")) " + w.form(depth, inner) + " " + w.form(depth, inner) + ")"
	case 6:
		if len(n.vars) > 0 {
			return "(setq " + w.pick(n.vars...) + " " + f() + ")"
		}
		return "(setq s " + f() + ")"
	case 7:
		return "(if " + f() + " " + f() + " " + f() + ")"
	case 8, 9:
		b := w.name("b")
		inner := n
		inner.blocks = with(n.blocks, b)
		return "(block " + b + " " + w.form(depth, inner) + " " + w.form(depth, inner) + ")"
	case 10, 11:
		if len(n.blocks) > 0 {
			return "(return-from " + w.pick(n.blocks...) + " " + f() + ")"
		}
		return "(catch 'k " + f() + ")"
	case 12:
		a, b := w.name("t"), w.name("t")
		inner := n
		inner.tags = with(n.tags, a, b)
		return "(tagbody (princ 1) " + a + " (progn " + w.form(depth, inner) + ") " + b + " (progn " + w.form(depth, inner) + "))"
	case 13:
		return "(unwind-protect " + f() + " (princ " + strconv.Itoa(w.IntN(10)) + ") " + f() + ")"
	case 14:
		return "(catch " + w.pick("'k", "'j", "5", "nil") + " " + f() + ")"
	case 15:
		return "(throw " + w.pick("'k", "'j", "5", "nil", f()) + " " + f() + ")"
	case 16:
		return "(let ((s " + f() + ")) (declare (special s)) " + f() + ")"
	case 17:
		return "(progv '(" + w.pick("s", "r", "s r", "s s", "") + ") '(" + w.pick("1", "", "1 2", "x") + ") " + f() + ")"
	case 18, 19:
		return "#'(lambda " + w.lambda(depth, n, nil) + ")"
	case 20:
		name := w.name("f")
		inner := n
		inner.functions = with(n.functions, name)
		own := n
		kind := w.pick("flet", "labels")
		if kind == "labels" {
			own = inner
		}
		return "(" + kind + " ((" + name + " " + w.lambda(depth, own, []string{name}) + ")) " + w.form(depth, inner) + ")"
	case 21:
		if len(n.functions) > 0 {
			return "(" + w.pick(n.functions...) + " " + strings.Repeat(f()+" ", w.IntN(3)) + ")"
		}
		return "(multiple-value-call #'" + w.pick("list", "values") + " " + f() + " " + f() + ")"
	case 22:
		return "(funcall " + f() + " " + strings.Repeat(f()+" ", w.IntN(2)) + ")"
	}
	return "(multiple-value-prog1 " + f() + " " + f() + ")"
}

// lambda returns a lambda list, and a body.
func (w *writer) lambda(depth int, n names, blocks []string) string {
	n.blocks = with(n.blocks, blocks...)
	var list []string
	add := func(item string, vars ...string) {
		list = append(list, item)
		n.vars = with(n.vars, vars...)
	}
	for range w.IntN(2) {
		v := w.name("v")
		add(v, v)
	}
	if w.IntN(2) == 0 {
		v, g := w.name("v"), w.name("v")
		list = append(list, "&optional")
		own := n
		own.blocks = n.blocks[:len(n.blocks)-len(blocks)]
		add("("+v+" "+w.form(depth-1, own)+" "+g+")", v, g)
	}
	if w.IntN(3) == 0 {
		v := w.name("v")
		list = append(list, "&rest")
		add(v, v)
	}
	special := ""
	if len(n.vars) > 0 && w.IntN(8) == 0 {
		special = "(declare (special s)) "
	}
	return "(" + strings.Join(list, " ") + ") " + special + w.form(depth, n)
}

func (w *writer) leaf(n names) string {
	switch w.IntN(10) {
	case 0, 1, 2:
		if len(n.vars) > 0 {
			return w.pick(n.vars...)
		}
	case 3:
		if len(n.tags) > 0 {
			return "(go " + w.pick(n.tags...) + ")"
		}
	case 4:
		if len(n.functions) > 0 {
			return "#'" + w.pick(n.functions...)
		}
	case 5:
		return "(princ " + strconv.Itoa(w.IntN(10)) + ")"
	case 6:
		return w.pick("s", "r")
	}
	return w.pick("nil", "1", "7", "'x", "#'list", "#'+", "(values)", "(values 1 2)")
}

// plainly returns the text of an end, without labels.
func plainly(t *testing.T, w *lib.World, x lib.End) string {
	t.Helper()
	shown := func(l []heap.Word) string {
		var out []string
		for _, y := range l {
			f, e := w.Show(y)
			f, e2 := forms.Plain(f)
			s, e3 := printer.Text(f, true)
			if e != api.OK || e2 != api.OK || e3 != api.OK {
				t.Fatal(e, e2, e3)
			}
			out = append(out, s)
		}
		return strings.Join(out, " ")
	}
	switch x.Kind {
	case lib.EndValues:
		return shown(x.Values)
	case lib.EndFault:
		return strings.TrimSuffix("! "+strings.ToLower(x.Fault.Type)+" "+shown(x.Fault.Data), " ")
	}
	return told(t, w, x)
}

// randomTree returns a random program, and its tree.
func (w *writer) randomTree(t *testing.T) (string, api.Core) {
	t.Helper()
	for {
		w.next = 0
		s := w.form(2+w.IntN(5), names{})
		if len(s) > api.MaxSource {
			continue
		}
		c, e := core.Convert(read(t, s), []api.Form{lisp("S"), lisp("R")})
		if e == api.ErrSize {
			continue
		}
		if e != api.OK {
			t.Fatalf("Convert(%s): %v", s, e)
		}
		return s, c
	}
}

// begun returns a world in which the variable S is 0.
func begun(t *testing.T) *lib.World {
	t.Helper()
	w := newWorld(t)
	w.SetValue(symbol(t, w, "S"), fix(0))
	return w
}

func TestP21_1Any(t *testing.T) {
	r := &writer{Rand: rand.New(rand.NewPCG(21, 1))}
	counts := map[int]int{}
	for range 5000 {
		s, c := r.randomTree(t)
		const most = 400
		want, m := modelled(c, most)
		w := begun(t)
		end, steps := meaning.Run(w, c, most)
		if got := plainly(t, w, end); got != want || w.Output() != m.output.String() || steps != m.steps {
			t.Fatalf("%s = %s, printing %s in %d steps; want %s, %s in %d steps", s, got, w.Output(), steps, want, m.output.String(), m.steps)
		}
		counts[end.Kind]++
		if end.Kind == lib.EndLimit {
			continue
		}
		for _, name := range []string{"S", "R"} {
			value, ok := m.values[name]
			x, _ := w.Value(symbol(t, w, name))
			if ok != (x != heap.Unbound) || ok && plainly(t, w, lib.End{Values: []heap.Word{x}}) != text(value) {
				t.Fatalf("%s leaves %s with another value than %v", s, name, value)
			}
		}
	}
	if counts[lib.EndValues] < 1000 || counts[lib.EndFault] < 1000 || counts[lib.EndLimit] < 10 {
		t.Errorf("ends: %v", counts)
	}
}

func TestP21_2Any(t *testing.T) {
	r := &writer{Rand: rand.New(rand.NewPCG(21, 2))}
	for range 900 {
		s, c := r.randomTree(t)
		d, e := core.Renamed(c, 1+r.IntN(5000))
		if e != api.OK {
			t.Fatal(e)
		}
		one, two := begun(t), begun(t)
		x, m := meaning.Run(one, c, 300)
		y, n := meaning.Run(two, d, 300)
		if told(t, one, x) != told(t, two, y) || one.Output() != two.Output() || m != n {
			t.Fatalf("%s = %s, and %s with other numbers", s, told(t, one, x), told(t, two, y))
		}
	}
}

func TestP21_4Any(t *testing.T) {
	r := &writer{Rand: rand.New(rand.NewPCG(21, 4))}
	for range 1000 {
		s, c := r.randomTree(t)
		w := begun(t)
		end, steps := meaning.Run(w, c, 300)
		if end.Kind == lib.EndLimit {
			continue
		}
		for _, limit := range []int{steps, steps + 1, api.MaxSteps} {
			v := begun(t)
			x, n := meaning.Run(v, c, limit)
			if told(t, v, x) != told(t, w, end) || n != steps || v.Output() != w.Output() {
				t.Fatalf("%s = %s in %d steps, and %s in %d of %d", s, told(t, w, end), steps, told(t, v, x), n, limit)
			}
		}
		for _, limit := range []int{steps - 1, r.IntN(steps)} {
			v := begun(t)
			if x, n := meaning.Run(v, c, limit); x.Kind != lib.EndLimit || x.Code != api.ErrSteps || n != limit {
				t.Fatalf("%s takes %d steps, and ends with %s in %d of %d", s, steps, told(t, v, x), n, limit)
			}
		}
	}
}

func TestP21_5Any(t *testing.T) {
	r := &writer{Rand: rand.New(rand.NewPCG(21, 5))}
	for range 900 {
		s, c := r.randomTree(t)
		one := begun(t)
		x, _ := meaning.Run(one, c, 5000)
		if x.Kind == lib.EndLimit {
			continue
		}
		block := api.Core{Op: api.CoreBlock, N: 9999, Kids: []api.Core{c}}
		for _, d := range []api.Core{node(api.CoreProgn, c), block, node(api.CoreProgn, constant("5"), c), node(api.CoreValuesFirst, c)} {
			two := begun(t)
			if y, _ := meaning.Run(two, d, 10000); told(t, one, x) != told(t, two, y) || one.Output() != two.Output() {
				t.Fatalf("%s = %s, and %s within %d", s, told(t, one, x), told(t, two, y), d.Op)
			}
		}
	}
	for _, x := range [][2]string{{"(list 1 2)", "(+ 1 2)"}, {"x", "'y"}, {"#'(lambda () 1)", "(let ((x 1)) x)"}} {
		w := newWorld(t)
		run(t, w, "(set 'x 7)")
		one := run(t, w, "(progn "+x[0]+" "+x[1]+" 5)")
		if two := run(t, w, "(progn "+x[1]+" "+x[0]+" 5)"); one != "5" || two != "5" {
			t.Errorf("%s and %s in both orders: %s, %s", x[0], x[1], one, two)
		}
	}
}
