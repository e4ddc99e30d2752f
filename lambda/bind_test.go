package lambda_test

import (
	"math/rand/v2"
	"slices"
	"strconv"
	"strings"
	"testing"

	"commonform/api"
	"commonform/core"
	"commonform/forms"
	"commonform/heap"
	"commonform/lambda"
	"commonform/lib"
	"commonform/meaning"
)

// evaluated runs a form, and returns what it prints, and its value; or the symbol %BAD-FORM, if this was called.
func evaluated(t *testing.T, f api.Form) (string, api.Form) {
	t.Helper()
	w, e := lib.New(api.MaxWords, 1000)
	if e != api.OK {
		t.Fatal(e)
	}
	c, e := core.Convert(f, nil)
	if e != api.OK {
		t.Fatalf("Convert(%s): %v", text(f), e)
	}
	end, _ := meaning.Run(w, c, api.MaxSteps)
	var words []heap.Word
	switch {
	case end.Kind == lib.EndValues:
		words = end.Values
	case end.Kind == lib.EndFault && end.Fault.Type == "UNDEFINED-FUNCTION":
		words = end.Fault.Data
	default:
		t.Fatalf("%s ends with %v", text(f), end)
	}
	x, e := w.Show(words[0])
	if e != api.OK {
		t.Fatal(e)
	}
	x, e = forms.Plain(x)
	if e != api.OK {
		t.Fatal(e)
	}
	return w.Output(), x
}

var badForm = forms.Symbol("COMMON-LISP", "%BAD-FORM")

// bound returns what the variables of a list are bound to by Bind.
func bound(t *testing.T, l lambda.List, value api.Form) (string, api.Form) {
	t.Helper()
	body := forms.Call("LIST", lambda.Variables(l))
	f, next, e := lambda.Bind(l, forms.Call("QUOTE", []api.Form{value}), []api.Form{forms.Nil(), body}, 5)
	if e != api.OK {
		t.Fatalf("Bind: %v", e)
	}
	checkShape(t, l, f, next)
	return evaluated(t, f)
}

// checkShape looks whether a form is a LET* with the variables in order, and fresh ones with numbers from 5 on, of which next is the next one.
func checkShape(t *testing.T, l lambda.List, f api.Form, next int) {
	t.Helper()
	parts, _ := forms.Items(f)
	bindings, ok := forms.Items(parts[1])
	if !ok || !forms.Is(parts[0], "COMMON-LISP", "LET*") || len(parts) != 4 {
		t.Fatalf("Bind = %s", text(f))
	}
	var names []api.Form
	for _, b := range bindings {
		if b.Kids[0].Home != "%" {
			names = append(names, b.Kids[0])
		}
	}
	if texts(names) != texts(lambda.Variables(l)) {
		t.Errorf("Bind = %s, want the variables %s", text(f), texts(lambda.Variables(l)))
	}
	if met := freshNames(f, nil); len(met) > 0 && (slices.Min(met) < 5 || slices.Max(met) >= next) {
		t.Errorf("Bind = %s with the next number %d", text(f), next)
	}
}

func freshNames(f api.Form, out []int) []int {
	if f.Home == "%" {
		n, _ := strconv.Atoi(f.Text)
		out = append(out, n)
	}
	for _, kid := range f.Kids {
		out = freshNames(kid, out)
	}
	return out
}

func TestP18_1Bind(t *testing.T) {
	for _, x := range []struct{ list, value, want string }{
		{"()", "()", "nil"},
		{"()", "(1)", "bad"},
		{"()", "5", "bad"},
		{"(a b)", "(1 2)", "(1 2)"},
		{"(a b)", "(1)", "bad"},
		{"(a b)", "(1 2 3)", "bad"},
		{"(a b)", "(1 2 . 3)", "bad"},
		{"(a b)", "(1 . 2)", "bad"},
		{"(a b)", "nil", "bad"},
		{"(a . b)", "(1 . 2)", "(1 2)"},
		{"(a &optional (b '(x) c) (d a))", "(1)", "(1 (x) nil 1)"},
		{"(a &optional (b '(x) c) (d a))", "(1 nil)", "(1 nil t 1)"},
		{"(a &optional (b '(x) c) (d a))", "(1 2 3)", "(1 2 t 3)"},
		{"(a &optional b)", "(1 . 2)", "bad"},
		{"(a &optional b . c)", "(1 . 2)", "(1 nil 2)"},
		{"(&rest r)", "(1 2)", "((1 2))"},
		{"(&rest r)", "5", "bad"},
		{"(&rest r)", "nil", "(nil)"},
		{"(&rest r &key)", "5", "bad"},
		{"(&whole w (a b) &environment e . r)", "((1 2) 3)", "(((1 2) 3) 1 2 nil (3))"},
		{"(() (a))", "(nil (1))", "(1)"},
		{"(() (a))", "((2) (1))", "bad"},
		{"(() (a))", "(nil 1)", "bad"},
		{"(&key a (b 7 c) ((nil d)) ((e f) a g))", "(:b 1 nil 2)", "(nil 1 t 2 nil nil)"},
		{"(&key a (b 7 c) ((nil d)) ((e f) a g))", "(e 5 :a 3 e 6)", "(3 7 nil nil 5 t)"},
		{"(&key a)", "(:a)", "bad"},
		{"(&key a)", "(:a 1 . 2)", "bad"},
		{"(&key a)", "(:a . 2)", "bad"},
		{"(&key a)", "(:b 1)", "bad"},
		{"(&key a)", "(:b 1 :allow-other-keys t)", "(nil)"},
		{"(&key a)", "(:b 1 :allow-other-keys nil :allow-other-keys t)", "bad"},
		{"(&key a)", "(:b)", "bad"},
		{"(&key a &allow-other-keys)", "(:b 1 2 3)", "(nil)"},
		{"(&key a &allow-other-keys)", "(:b 1 2)", "bad"},
		{"(&rest r &key a)", "(:a 1 . 2)", "bad"},
		{"(&rest r &key a)", "(:a 1)", "((:a 1) 1)"},
		{"(&rest r &key a &allow-other-keys)", "(:b 1 . 2)", "bad"},
		{"(&rest r &key a)", "(:b 1 :allow-other-keys t . 2)", "bad"},
		{"(a b &body p &key)", "(2 1 . 9)", "bad"},
		{"(&optional a &rest p &key)", "(2 . 9)", "bad"},
		{"(a &rest p &key k)", "(2 :k 5 . 9)", "bad"},
		{"(a &rest p &key k &allow-other-keys)", "(2 . 9)", "bad"},
		{"((a &rest p &key) b)", "((2 . 9) 3)", "bad"},
		{"(&key ((:k (a &rest p &key))))", "(:k (2 . 9))", "bad"},
		{"(&optional ((a &rest p &key) '(2 . 9)))", "()", "bad"},
		{"(&rest r &key a)", "(:a . 2)", "bad"},
		{"(&key ((:k (a b)) '(1 2) c))", "()", "(1 2 nil)"},
		{"(&key ((:k (a b)) '(1 2) c))", "(:k (3 4))", "(3 4 t)"},
		{"(&key ((:k (a b)) '(1) c))", "()", "bad"},
		{"(&key ((:k (a b)) '(1) c))", "(:k 5)", "bad"},
		{"(&optional ((a &optional (b 8)) '(1) c) d)", "((2) 3)", "(2 8 t 3)"},
		{"(&optional ((a &optional (b 8)) '(1) c) d)", "()", "(1 8 nil nil)"},
		{"(&optional ((a &optional (b 8)) 1 c) d)", "()", "bad"},
		{"(&aux (a 1) b (c (list a)))", "()", "(1 nil (1))"},
	} {
		out, f := bound(t, parse(t, x.list, true), read(t, x.value))
		got := text(f)
		if forms.Equal(f, badForm) {
			got = "bad"
		}
		if got != x.want || out != "" {
			t.Errorf("Bind of %s to %s = %s, want %s", x.list, x.value, got, x.want)
		}
	}
}

// Declarations in front of the body belong to the LET*, whose form is evaluated once.
func TestP18_1BindBody(t *testing.T) {
	l := parse(t, "(a (b))", true)
	body := []api.Form{read(t, "(declare (special a))"), read(t, "(list (symbol-value 'a) a b)")}
	f, next, e := lambda.Bind(l, read(t, "(progn (princ 1) '(2 (3)))"), body, 100)
	if e != api.OK || next <= 100 {
		t.Fatal(next, e)
	}
	if out, x := evaluated(t, f); out != "1" || text(x) != "(2 2 3)" {
		t.Errorf("%s prints %s, and its value is %s", text(f), out, text(x))
	}
	if f, _, _ := lambda.Bind(lambda.List{}, forms.Nil(), nil, 0); text(f)[:6] != "(let* " {
		t.Errorf("Bind without a body: %s", text(f))
	}
}

// A list with many parameters does not make a form that is too deep.
func TestP18_1BindMany(t *testing.T) {
	var names, values []string
	for i := range 45 {
		names = append(names, "v"+strconv.Itoa(i))
		values = append(values, strconv.Itoa(i))
	}
	list := "(" + strings.Join(names[:30], " ") + " &optional " + strings.Join(names[30:], " ") + ")"
	want := "(" + strings.Join(values, " ") + ")"
	if _, f := bound(t, parse(t, list, true), read(t, want)); text(f) != want {
		t.Errorf("many parameters are bound to %s", text(f))
	}
}

// maker makes random lambda lists for macros, and arguments.
type maker struct {
	r    *rand.Rand
	next int
}

func (m *maker) name() string {
	m.next++
	return "v" + strconv.Itoa(m.next)
}

// init returns an init form that prints a number, so that its evaluation is seen.
func (m *maker) init() string {
	m.next++
	values := []string{"nil", "5", "(1)", "(1 2)", "((1) 2)", "(:k1 3)", "(x . y)"}
	return "(progn (princ " + strconv.Itoa(m.next) + ") '" + values[m.r.IntN(len(values))] + ")"
}

func (m *maker) target(depth int) string {
	if depth > 0 && m.r.IntN(3) == 0 {
		return m.list(depth-1, false)
	}
	return m.name()
}

func (m *maker) described(target string, isVariable bool) string {
	switch m.r.IntN(4) {
	case 0:
		return "(" + target + " " + m.init() + ")"
	case 1:
		return "(" + target + " " + m.init() + " " + m.name() + ")"
	case 2:
		return "(" + target + ")"
	}
	if isVariable {
		return target
	}
	return "(" + target + ")"
}

func (m *maker) list(depth int, top bool) string {
	var out []string
	put := func(s ...string) { out = append(out, s...) }
	hasEnvironment := !top
	environment := func() {
		if !hasEnvironment && m.r.IntN(10) == 0 {
			hasEnvironment = true
			put("&environment", m.name())
		}
	}
	if top && m.r.IntN(4) == 0 {
		put("&whole", m.name())
	}
	for range m.r.IntN(3) {
		environment()
		put(m.target(depth))
	}
	if m.r.IntN(2) == 0 {
		put("&optional")
		for range m.r.IntN(3) {
			environment()
			target := m.target(depth)
			put(m.described(target, target[0] != '('))
		}
	}
	if m.r.IntN(4) == 0 {
		if len(out) > 0 && m.r.IntN(2) == 0 {
			return "(" + strings.Join(out, " ") + " . " + m.name() + ")"
		}
		put([]string{"&rest", "&body"}[m.r.IntN(2)], m.name())
	}
	environment()
	if m.r.IntN(3) == 0 {
		put("&key")
		for i := range m.r.IntN(4) {
			key := []string{":k", "k"}[m.r.IntN(2)] + strconv.Itoa(i)
			put(m.described("("+key+" "+m.target(depth)+")", false))
		}
		if m.r.IntN(4) == 0 {
			put("&allow-other-keys")
		}
	}
	if m.r.IntN(5) == 0 {
		put("&aux", m.name(), "("+m.name()+" "+m.init()+")")
	}
	environment()
	return "(" + strings.Join(out, " ") + ")"
}

// value returns a random argument that may fit.
func (m *maker) value(depth int) string {
	if depth == 0 || m.r.IntN(3) > 0 {
		return []string{"1", "x", "nil", "t", ":k0", "k1", "\"s\""}[m.r.IntN(7)]
	}
	return m.values(depth - 1)
}

func (m *maker) values(depth int) string {
	var out []string
	for range m.r.IntN(4) {
		out = append(out, m.value(depth))
	}
	if m.r.IntN(2) == 0 {
		for range m.r.IntN(3) {
			out = append(out, []string{":k0", "k0", ":k1", "k1", ":k2", ":allow-other-keys"}[m.r.IntN(6)], m.value(depth))
		}
	}
	if len(out) > 0 && m.r.IntN(12) == 0 {
		return "(" + strings.Join(out, " ") + " . 9)"
	}
	return "(" + strings.Join(out, " ") + ")"
}

// fitting returns a list that fits, as far as the random keys allow it.
func (m *maker) fitting(l lambda.List) string {
	var out []string
	value := func(x lambda.Item) string {
		if x.Pattern != nil && m.r.IntN(8) > 0 {
			return m.fitting(*x.Pattern)
		}
		return m.value(2)
	}
	short := m.r.IntN(3) == 0
	for _, x := range l.Items {
		switch x.Kind {
		case lambda.Required:
			out = append(out, value(x))
		case lambda.Optional:
			if !short {
				out = append(out, value(x))
			}
		case lambda.Key:
			if !short && m.r.IntN(2) == 0 {
				out = append(out, text(x.Key), value(x))
			}
		case lambda.Rest:
			if !short && !l.Keys {
				out = append(out, m.value(2))
			}
		}
	}
	if len(out) > 0 && m.r.IntN(10) == 0 {
		out = append(out, ".", "7")
	}
	return "(" + strings.Join(out, " ") + ")"
}

// model says by the definitions what variables are bound to, and which init forms are evaluated.
type model struct {
	values  []api.Form
	printed string
	bad     bool
}

// evaluate evaluates an init form of a maker.
func (m *model) evaluate(f api.Form) api.Form {
	parts, ok := forms.Items(f)
	if !ok || forms.IsNil(f) {
		return f
	}
	m.printed += parts[1].Kids[1].Text
	return parts[2].Kids[1]
}

// count returns how many items of a list have a kind.
func count(l lambda.List, kind int) int {
	n := 0
	for _, x := range l.Items {
		if x.Kind == kind {
			n++
		}
	}
	return n
}

// fits says by the definitions whether a value can be bound to a list, up to its init forms.
func fits(l lambda.List, value api.Form) bool {
	if value.Kind != api.FormCons && !forms.IsNil(value) {
		return false
	}
	args, tail := forms.Spread(value)
	required := count(l, lambda.Required)
	left := args[min(len(args), required+count(l, lambda.Optional)):]
	switch {
	case len(args) < required:
		return false
	case l.Keys:
		if len(left)%2 != 0 || !forms.IsNil(tail) || !fitKeys(l, left) {
			return false
		}
	case count(l, lambda.Rest) == 0:
		if len(left) > 0 || !forms.IsNil(tail) {
			return false
		}
	}
	for _, x := range l.Items {
		if (x.Kind == lambda.Required || x.Kind == lambda.Optional) && len(args) > len(left) {
			if x.Pattern != nil && !fits(*x.Pattern, args[0]) {
				return false
			}
			args = args[1:]
		}
		if x.Kind == lambda.Key && x.Pattern != nil {
			if v := found(left, x.Key); v != nil && !fits(*x.Pattern, *v) {
				return false
			}
		}
	}
	return true
}

// found returns the value of the first pair with a key, or nil.
func found(left []api.Form, key api.Form) *api.Form {
	for i := 0; i < len(left); i += 2 {
		if forms.Equal(left[i], key) {
			return &left[i+1]
		}
	}
	return nil
}

func fitKeys(l lambda.List, left []api.Form) bool {
	others := forms.Symbol("KEYWORD", "ALLOW-OTHER-KEYS")
	if v := found(left, others); l.Allow || v != nil && !forms.IsNil(*v) {
		return true
	}
	for i := 0; i < len(left); i += 2 {
		isKey := func(x lambda.Item) bool { return x.Kind == lambda.Key && forms.Equal(x.Key, left[i]) }
		if !forms.Equal(left[i], others) && !slices.ContainsFunc(l.Items, isKey) {
			return false
		}
	}
	return true
}

// list binds a list that fits already, with its init forms.
func (m *model) list(l lambda.List, value api.Form) {
	args, tail := forms.Spread(value)
	if m.bad || !fits(l, value) {
		m.bad = true
		return
	}
	all, taken := args, count(l, lambda.Required)+count(l, lambda.Optional)
	left := args[min(len(args), taken):]
	for _, x := range l.Items {
		given := true
		var v api.Form
		switch x.Kind {
		case lambda.Whole:
			v = forms.Dotted(all, tail)
		case lambda.Rest:
			v = forms.Dotted(left, tail)
		case lambda.Environment:
			v = forms.Nil()
		case lambda.Required, lambda.Optional:
			given = len(args) > len(left)
			if given {
				v, args = args[0], args[1:]
			}
		case lambda.Key:
			found := found(left, x.Key)
			given = found != nil
			if given {
				v = *found
			}
		case lambda.Aux:
			given = false
		}
		if !given {
			v = m.evaluate(x.Init)
		}
		if x.Pattern != nil {
			m.list(*x.Pattern, v)
			if m.bad {
				return
			}
		} else {
			m.values = append(m.values, v)
		}
		if x.Given.Kind != 0 {
			m.values = append(m.values, map[bool]api.Form{true: forms.Symbol("COMMON-LISP", "T"), false: forms.Nil()}[given])
		}
	}
}

func TestP18_1BindAny(t *testing.T) {
	m := &maker{r: rand.New(rand.NewPCG(18, 1))}
	counts := map[bool]int{}
	for range 1500 {
		m.next = 0
		list := m.list(2, true)
		l := parse(t, list, true)
		value := m.fitting(l)
		if m.r.IntN(4) == 0 {
			value = m.value(3)
		}
		if f, _, e := lambda.Bind(l, forms.Nil(), nil, 0); e == api.OK && isLarge(f) {
			continue
		}
		want := &model{}
		want.list(l, read(t, value))
		pattern := lambda.List{Items: []lambda.Item{{Kind: lambda.Required, Pattern: &l}}}
		if bs, e := lambda.Match(pattern, []api.Form{read(t, value)}); (e == api.OK) != fits(l, read(t, value)) || e != api.OK && len(bs) > 0 {
			t.Fatalf("Match of %s and %s: %v, %v", list, value, bs, e)
		}
		out, f := bound(t, l, read(t, value))
		isBad := forms.Equal(f, badForm)
		counts[isBad]++
		switch {
		case isBad != want.bad || out != want.printed:
			t.Fatalf("Bind of %s to %s = %s, printing %s; want bad: %v, printing %s", list, value, text(f), out, want.bad, want.printed)
		case !isBad && text(f) != text(forms.List(want.values)):
			t.Fatalf("Bind of %s to %s = %s, want %s", list, value, text(f), texts(want.values))
		}
	}
	if counts[true] < 150 || counts[false] < 500 {
		t.Errorf("%d lists do not fit, %d do", counts[true], counts[false])
	}
}

// isLarge reports whether there is no room for a form within a right one.
func isLarge(f api.Form) bool {
	nodes, _ := forms.Size(f)
	return nodes > api.MaxForm-200
}

func TestP18_2Any(t *testing.T) {
	m := &maker{r: rand.New(rand.NewPCG(18, 2))}
	for range 3000 {
		list := m.list(3, true)
		l := parse(t, list, true)
		f, e := lambda.Show(l)
		if e != api.OK {
			t.Fatalf("Show(%s): %v", list, e)
		}
		back, e := lambda.Parse(f, true)
		if e != api.OK || described(back) != described(l) {
			t.Fatalf("Show(%s) = %s", list, text(f))
		}
		if l, e := lambda.Parse(read(t, list), false); e == api.OK {
			if back, e := lambda.Parse(f, false); e != api.OK || described(back) != described(l) {
				t.Fatalf("Show(%s) = %s is not for functions", list, text(f))
			}
		}
		seen := map[string]bool{}
		for _, v := range lambda.Variables(l) {
			if seen[text(v)] {
				t.Fatalf("Variables(%s) has %s twice", list, text(v))
			}
			seen[text(v)] = true
		}
	}
}

func TestP18_3Any(t *testing.T) {
	m := &maker{r: rand.New(rand.NewPCG(18, 3))}
	for range 1000 {
		list := m.list(1, true)
		l := parse(t, list, true)
		least, most := lambda.Arity(l)
		for n := range 8 {
			var args []api.Form
			for range n {
				args = append(args, read(t, m.value(2)))
			}
			_, e := lambda.Match(l, args)
			if fits := n >= least && (most < 0 || n <= most); (e == api.ErrSize) == fits && !hasPattern(l) {
				t.Fatalf("Match(%s) with %d arguments: %v", list, n, e)
			}
		}
		hasRest := slices.ContainsFunc(l.Items, func(x lambda.Item) bool { return x.Kind == lambda.Rest })
		if hasRest && most != -1 {
			t.Fatalf("Arity(%s) = %d, %d", list, least, most)
		}
	}
}

// hasPattern reports whether a list has a pattern, whose own numbers of arguments may be wrong.
func hasPattern(l lambda.List) bool {
	return slices.ContainsFunc(l.Items, func(x lambda.Item) bool { return x.Pattern != nil })
}

func TestP18_4Any(t *testing.T) {
	m := &maker{r: rand.New(rand.NewPCG(18, 4))}
	for range 3000 {
		list := m.list(2, true)
		l := parse(t, list, true)
		args, ok := forms.Items(read(t, m.fitting(l)))
		bs, e := lambda.Match(l, args)
		if !ok || e != api.OK {
			continue
		}
		var vars []api.Form
		for _, b := range bs {
			vars = append(vars, b.Var)
			if b.Missing && !forms.IsNil(b.Value) {
				t.Fatalf("Match(%s, %s): %v is missing, but %v", list, texts(args), b.Var, b.Value)
			}
		}
		if texts(vars) != texts(lambda.Variables(l)) {
			t.Fatalf("Match(%s, %s) binds %s", list, texts(args), texts(vars))
		}
	}
}

func TestP18_4Values(t *testing.T) {
	l := parse(t, "(a b c)", false)
	bs, e := lambda.Match(l, arguments(t, "(1 (2) nil)"))
	if e != api.OK || len(bs) != 3 || text(bs[0].Value)+text(bs[1].Value)+text(bs[2].Value) != "1(2)nil" {
		t.Errorf("Match of required parameters: %v, %v", bs, e)
	}
	l = parse(t, "(&whole w a &optional b &rest r &key x y)", true)
	one, two := matched(l, arguments(t, "(1 2 :x 3 :y 4)")), matched(l, arguments(t, "(1 2 :y 4 :x 3)"))
	if one != "w=(1 2 :x 3 :y 4) a=1 b=2 r=(:x 3 :y 4) x=3 y=4" || two != "w=(1 2 :y 4 :x 3) a=1 b=2 r=(:y 4 :x 3) x=3 y=4" {
		t.Errorf("pairs in another order: %s and %s", one, two)
	}
	if s := matched(l, arguments(t, "(1 2 :x 3 :y 4 :x 5)")); s != "w=(1 2 :x 3 :y 4 :x 5) a=1 b=2 r=(:x 3 :y 4 :x 5) x=3 y=4" {
		t.Errorf("a further argument: %s", s)
	}
}

// Nothing that is returned shares memory with what was handed in.
func TestP18_1Memory(t *testing.T) {
	f := read(t, "((a &optional (b (list 1))) &key ((k c) (list 2)))")
	before := text(f)
	l, _ := lambda.Parse(f, true)
	shown, _ := lambda.Show(l)
	said := described(l)
	args := arguments(t, "((1 (2)) k (3))")
	bs, _ := lambda.Match(l, args)
	vars := lambda.Variables(l)
	got := matched(l, args)
	spoil(f)
	spoil(shown)
	for _, b := range bs {
		spoil(b.Value)
	}
	for i := range vars {
		vars[i].Text = "SPOILT"
	}
	if described(l) != said || matched(l, args) != got || text(f) == before {
		t.Errorf("a list is %s, and was %s", described(l), said)
	}
}

func spoil(f api.Form) {
	for i := range f.Kids {
		spoil(f.Kids[i])
		f.Kids[i].Text += "9"
	}
}
