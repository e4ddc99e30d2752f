package lib_test

import (
	"math/rand/v2"
	"reflect"
	"slices"
	"strconv"
	"strings"
	"testing"

	"commonform/api"
	"commonform/forms"
	"commonform/heap"
	"commonform/lib"
	"commonform/printer"
	"commonform/symbols"
)

var typeNames = strings.Fields("LIST LIST SEQUENCE SYMBOL NUMBER REAL RATIONAL INTEGER UNSIGNED-BYTE CHARACTER STRING ARRAY HASH-TABLE CONS FUNCTION")

func TestP20_1New(t *testing.T) {
	w := newWorld(t)
	names := slices.Concat([]string{"NIL", "T"}, lib.Names(), typeNames)
	seen := map[string]bool{}
	next := 0
	for _, name := range names {
		if seen[name] {
			continue
		}
		seen[name] = true
		got, home, e := w.Symbols().Symbol(next)
		if e != api.OK || got != name || home != "COMMON-LISP" {
			t.Errorf("the symbol %d is %s of %s, %v; want %s", next, got, home, e, name)
		}
		number, status, _ := w.Symbols().Find("COMMON-LISP-USER", name)
		if number != next || status != symbols.Inherited {
			t.Errorf("%s is not exported", name)
		}
		next++
	}
	if _, _, e := w.Symbols().Symbol(next); e != api.ErrNone {
		t.Errorf("a new world has more symbols than %d", next)
	}
	if x := symbol(t, w, "COMMON-LISP", "NIL"); x != heap.Nil {
		t.Errorf("NIL is %d", x)
	}
	truth := symbol(t, w, "COMMON-LISP", "T")
	for _, x := range []heap.Word{heap.Nil, truth} {
		value, e := w.Value(x)
		f, g := w.Function(x)
		if e != api.OK || g != api.OK || value != x || f != heap.Unbound {
			t.Errorf("a constant has the value %d and the function %d", value, f)
		}
	}
	if w.Output() != "" || w.Parts().Counter != 0 {
		t.Error("a new world has an output, or has counted")
	}
	for i, name := range lib.Names() {
		f, e := w.Function(symbol(t, w, "COMMON-LISP", name))
		index, _ := w.Heap().Get(f, 0)
		if e != api.OK || w.Heap().Kind(f) != heap.KindBuiltin || w.Heap().Len(f) != 1 || index != fix(int64(i)) {
			t.Errorf("the function of %s is %d", name, f)
		}
	}
}

func TestP20_1NewErrors(t *testing.T) {
	for _, x := range []struct {
		limit, young int
		e            api.Errno
	}{{63, 1, api.ErrArg}, {65537, 1, api.ErrArg}, {64, 0, api.ErrArg}, {64, 65, api.ErrArg}, {64, 64, api.ErrWords}, {1000, 10, api.ErrWords}, {65536, 65536, api.OK}} {
		if w, e := lib.New(x.limit, x.young); e != x.e || (w == nil) != (e != api.OK) {
			t.Errorf("New(%d, %d): %v", x.limit, x.young, e)
		}
	}
	used := newWorld(t).Heap().Used()
	if _, e := lib.New(used, 1); e != api.OK {
		t.Errorf("New with just enough words: %v", e)
	}
	if _, e := lib.New(used-1, 1); e != api.ErrWords {
		t.Errorf("New with a word too few: %v", e)
	}
}

func TestP20_1NoWorld(t *testing.T) {
	var w *lib.World
	if _, e := w.Symbol("KEYWORD", "A"); e != api.ErrArg {
		t.Errorf("Symbol: %v", e)
	}
	if _, _, e := w.Name(heap.Nil); e != api.ErrArg {
		t.Errorf("Name: %v", e)
	}
	value, e := w.Value(heap.Nil)
	function, f := w.Function(heap.Nil)
	built, g := w.Build(forms.Nil())
	form, h := w.Show(heap.Nil)
	if value != 0 || function != 0 || built != 0 || form.Kind != 0 {
		t.Error("of no world something is returned")
	}
	for i, code := range []api.Errno{e, f, g, h, w.SetValue(heap.Nil, heap.Nil), w.SetFunction(heap.Nil, heap.Nil), w.Print(""), w.Register("X", 0, 0, func([]heap.Word) lib.Answer { return lib.Answer{} })} {
		if code != api.ErrArg {
			t.Errorf("%d: %v", i, code)
		}
	}
	w.SetExtra("x", 5)
	if a := w.Call(heap.Nil, nil); a.Kind != lib.AnswerLimit || a.Code != api.ErrArg {
		t.Errorf("Call: %v", a)
	}
	if w.Heap() != nil || w.Symbols() != nil || w.Output() != "" || w.Extra("x") != nil || !reflect.DeepEqual(w.Parts(), lib.Parts{}) {
		t.Error("of no world something is told")
	}
}

func TestP20_1Symbol(t *testing.T) {
	w := newWorld(t)
	h := w.Heap()
	if e := w.Symbols().Make("P", nil, nil); e != api.OK {
		t.Fatal(e)
	}
	x := symbol(t, w, "P", "x y")
	if home, name, e := w.Name(x); home != "P" || name != "x y" || e != api.OK {
		t.Errorf("Name = %s, %s, %v", home, name, e)
	}
	if h.Kind(x) != heap.KindSymbol || h.Len(x) != 5 {
		t.Errorf("the object has the kind %d and %d fields", h.Kind(x), h.Len(x))
	}
	var fields []heap.Word
	for i := range 5 {
		y, _ := h.Get(x, i)
		fields = append(fields, y)
	}
	number, _, _ := w.Symbols().Find("P", "x y")
	if text, e := h.Bytes(fields[1]); fields[0] != fix(int64(number)) || h.Kind(fields[1]) != heap.KindString || text != "x y" || e != api.OK || fields[2] != heap.Unbound || fields[3] != heap.Unbound || fields[4] != heap.Nil {
		t.Errorf("the fields of a new symbol are %v", fields)
	}
	k := symbol(t, w, "KEYWORD", "K")
	if value, _ := w.Value(k); value != k {
		t.Errorf("the value of a keyword is %d", value)
	}
	if symbol(t, w, "P", "x y") != x || symbol(t, w, "CL-USER", "CAR") != symbol(t, w, "COMMON-LISP", "CAR") {
		t.Error("a symbol has two objects")
	}
	for _, number := range []heap.Word{heap.Nil, fix(-1), fix(999)} {
		y, _ := h.New(heap.KindSymbol, 5)
		h.Set(y, 0, number)
		if home, name, e := w.Name(y); e != lib.ErrNoSymbol || home+name != "" {
			t.Errorf("Name of what is no symbol of the table: %v", e)
		}
	}
	for _, y := range []struct {
		home, name string
		e          api.Errno
	}{{"NOWHERE", "A", api.ErrNone}, {"", "A", api.ErrNone}, {"P", strings.Repeat("A", 61), api.ErrSize}, {strings.Repeat("A", 61), "A", api.ErrSize}} {
		before := w.Symbols().Text()
		if z, e := w.Symbol(y.home, y.name); e != y.e || z != 0 || w.Symbols().Text() != before {
			t.Errorf("Symbol(%s, %s) = %d, %v", y.home, y.name, z, e)
		}
	}
	for _, y := range []heap.Word{fix(5), heap.Unbound, 7, 1 << 40, build(t, w, "(1)"), build(t, w, "\"x\"")} {
		_, _, e := w.Name(y)
		value, f := w.Value(y)
		function, g := w.Function(y)
		if value != 0 || function != 0 || e != lib.ErrNoSymbol || f != lib.ErrNoSymbol || g != lib.ErrNoSymbol || w.SetValue(y, 7) != lib.ErrNoSymbol || w.SetFunction(y, heap.Unbound) != lib.ErrNoSymbol {
			t.Errorf("of the word %d, which is no symbol: %v, %v, %v", y, e, f, g)
		}
	}
}

func TestP20_6Values(t *testing.T) {
	w := newWorld(t)
	x, k, truth := symbol(t, w, "CL-USER", "X"), symbol(t, w, "KEYWORD", "K"), symbol(t, w, "COMMON-LISP", "T")
	for _, set := range []func(symbol, x heap.Word) api.Errno{w.SetValue, w.SetFunction} {
		if e := set(x, 7); e != heap.ErrWord {
			t.Errorf("a bad word: %v", e)
		}
		if e := set(x, heap.Word(1<<40|3)); e != heap.ErrWord {
			t.Errorf("a reference to no object: %v", e)
		}
		if e := set(x, fix(5)); e != api.OK {
			t.Errorf("a fixnum: %v", e)
		}
	}
	value, _ := w.Value(x)
	function, _ := w.Function(x)
	if value != fix(5) || function != fix(5) {
		t.Errorf("X has %d and %d", value, function)
	}
	for _, c := range []heap.Word{heap.Nil, truth, k} {
		before, _ := w.Value(c)
		for _, y := range []heap.Word{fix(5), heap.Unbound, 7, c} {
			if e := w.SetValue(c, y); e != api.ErrArg {
				t.Errorf("SetValue of a constant: %v", e)
			}
		}
		if after, _ := w.Value(c); after != before {
			t.Errorf("the value of a constant is %d", after)
		}
		if e := w.SetFunction(c, heap.Unbound); e != api.ErrArg {
			t.Errorf("SetFunction of a constant: %v", e)
		}
		if e := w.SetFunction(c, fix(6)); e != api.OK {
			t.Errorf("SetFunction of a constant: %v", e)
		}
		if e := w.SetFunction(c, 7); e != heap.ErrWord {
			t.Errorf("SetFunction of a constant: %v", e)
		}
	}
	w.Symbols().Make("P", nil, nil)
	if e := w.SetValue(symbol(t, w, "P", "T"), fix(5)); e != api.OK {
		t.Errorf("SetValue of another T: %v", e)
	}
	if e := w.SetValue(symbol(t, w, "COMMON-LISP", "X"), fix(5)); e != api.OK {
		t.Errorf("SetValue of a symbol of COMMON-LISP: %v", e)
	}
	if w.SetValue(x, heap.Unbound) != api.OK || w.SetFunction(x, heap.Unbound) != api.OK {
		t.Error("nothing is taken away")
	}
	value, _ = w.Value(x)
	function, _ = w.Function(x)
	if value != heap.Unbound || function != heap.Unbound {
		t.Errorf("X has %d and %d", value, function)
	}
}

func TestP20_1Extra(t *testing.T) {
	w := newWorld(t)
	if w.Extra("x") != nil {
		t.Error("something is kept in a new world")
	}
	w.SetExtra("x", 5)
	w.SetExtra("y", "z")
	w.SetExtra("x", 6)
	if w.Extra("x") != 6 || w.Extra("y") != "z" || w.Extra("") != nil {
		t.Error("Extra returns something else than what SetExtra kept")
	}
}

func TestP20_2Any(t *testing.T) {
	r := rand.New(rand.NewPCG(20, 2))
	w := newWorld(t)
	for i := range 4000 {
		if i%50 == 0 {
			w = newWorld(t)
		}
		labels := 0
		f := randomForm(r, 4, &labels)
		want, e := forms.Normal(f)
		if e != api.OK {
			continue
		}
		x, e := w.Build(f)
		if e != api.OK {
			t.Fatalf("Build(%v): %v", f, e)
		}
		got, e := w.Show(x)
		if e != api.OK || !forms.Equal(got, want) {
			t.Fatalf("Show of Build of %v = %v, %v", f, got, e)
		}
		y, e := w.Build(got)
		if again, f := w.Show(y); e != api.OK || f != api.OK || !forms.Equal(again, got) {
			t.Fatalf("Build of Show of %v: %v, %v", got, e, f)
		}
	}
}

func randomForm(r *rand.Rand, depth int, labels *int) api.Form {
	atoms := []api.Form{
		{Kind: api.FormInt, Text: "5"}, {Kind: api.FormInt, Text: "-1152921504606846976"}, {Kind: api.FormInt, Text: "1152921504606846976"}, {Kind: api.FormRatio, Text: "-1/2"}, {Kind: api.FormSingle, Text: "3f800000"}, {Kind: api.FormDouble, Text: "3ff0000000000000"},
		{Kind: api.FormComplex, Kids: []api.Form{{Kind: api.FormInt, Text: "1152921504606846976"}, {Kind: api.FormRatio, Text: "1/2"}}},
		{Kind: api.FormChar, Text: "é"}, {Kind: api.FormString, Text: "a\"é"}, {Kind: api.FormString}, {Kind: api.FormBits, Text: "0110"}, {Kind: api.FormBits},
		forms.Nil(), forms.Symbol("COMMON-LISP", "CAR"), forms.Symbol("COMMON-LISP-USER", "x"), forms.Symbol("KEYWORD", "K"), forms.Symbol("", "G"), {Kind: api.FormVector}, {Kind: api.FormArray, Text: "2 0"},
	}
	if depth == 0 || r.IntN(4) == 0 {
		if *labels > 0 && r.IntN(4) == 0 {
			return api.Form{Kind: api.FormRef, Text: strconv.Itoa(1 + r.IntN(*labels))}
		}
		return atoms[r.IntN(len(atoms))]
	}
	label := 0
	if r.IntN(3) == 0 {
		*labels++
		label = *labels
	}
	var kids []api.Form
	for range 1 + r.IntN(3) {
		kids = append(kids, randomForm(r, depth-1, labels))
	}
	var f api.Form
	switch r.IntN(5) {
	case 0:
		f = api.Form{Kind: api.FormVector, Kids: kids}
	case 1:
		f = api.Form{Kind: api.FormArray, Text: "1 " + strconv.Itoa(len(kids)), Kids: kids}
	case 2:
		f = forms.Dotted(kids, randomForm(r, depth-1, labels))
	default:
		f = forms.List(kids)
	}
	if label > 0 {
		return api.Form{Kind: api.FormLabel, Text: strconv.Itoa(label), Kids: []api.Form{f}}
	}
	return f
}

func TestP20_1Build(t *testing.T) {
	w := newWorld(t)
	h := w.Heap()
	x := build(t, w, "(5 #\\a \"b\" #*01 1.5 #c(1 2) #(6 7) #2a((8) (9)) #0a4)")
	var kinds []int
	var parts []heap.Word
	for h.Kind(x) == heap.KindCons {
		y, _ := h.Get(x, 0)
		kinds = append(kinds, h.Kind(y))
		parts = append(parts, y)
		x, _ = h.Get(x, 1)
	}
	if !slices.Equal(kinds, []int{0, 0, heap.KindString, heap.KindBits, heap.KindSingle, heap.KindComplex, heap.KindVector, heap.KindArray, heap.KindArray}) || x != heap.Nil {
		t.Errorf("the kinds are %v", kinds)
	}
	if s, _ := h.Bytes(parts[4]); s != "3fc00000" {
		t.Errorf("the bytes of a float are %s", s)
	}
	field := func(x heap.Word, i int) heap.Word {
		y, _ := h.Get(x, i)
		return y
	}
	if field(parts[5], 0) != fix(1) || field(parts[5], 1) != fix(2) || field(parts[6], 1) != fix(7) {
		t.Error("parts are not those of the forms")
	}
	dims, elements := field(parts[7], 0), field(parts[7], 1)
	if h.Kind(dims) != heap.KindVector || h.Len(dims) != 2 || field(dims, 0) != fix(2) || field(dims, 1) != fix(1) || h.Kind(elements) != heap.KindVector || field(elements, 1) != fix(9) {
		t.Error("an array is not made of two vectors")
	}
	if dims := field(parts[8], 0); h.Len(dims) != 0 || field(field(parts[8], 1), 0) != fix(4) {
		t.Error("an array without dimensions is not made of two vectors")
	}
	l := build(t, w, "(#:a #:a #:b)")
	if a, b := field(l, 0), field(field(l, 1), 0); a != b || a == field(build(t, w, "(#:a)"), 0) {
		t.Error("symbols without a home are not one for each name in a form")
	}
	if l := build(t, w, "(#1=\"s\" #1# \"s\")"); field(l, 0) != field(field(l, 1), 0) || field(l, 0) == field(field(field(l, 1), 1), 0) {
		t.Error("what has a label is not one object")
	}
}

func TestP20_1BuildErrors(t *testing.T) {
	w := newWorld(t)
	long := strings.Repeat("A", 61)
	for _, x := range []struct {
		f api.Form
		e api.Errno
	}{
		{api.Form{}, api.ErrForm},
		{api.Form{Kind: api.FormRef, Text: "1"}, forms.ErrLabel},
		{forms.List([]api.Form{{Kind: api.FormInt, Text: "01"}, forms.Symbol("", long)}), api.ErrForm},
		{forms.Symbol("KEYWORD", long), api.ErrSize},
		{forms.Symbol("", long), api.ErrSize},
		{forms.Symbol("NOWHERE", long), api.ErrSize},
		{forms.Symbol("NOWHERE", "X"), api.ErrNone},
		{forms.Symbol("%", "X"), api.ErrNone},
		{forms.Symbol(long, "X"), api.ErrSize},
		{forms.List([]api.Form{forms.Symbol("CL-USER", "NEW"), forms.Symbol("", "NEW"), forms.Symbol("NOWHERE", "X"), forms.Symbol("", long)}), api.ErrNone},
		{forms.List([]api.Form{forms.Symbol("CL-USER", "NEW"), forms.Symbol("", long), forms.Symbol("NOWHERE", "X")}), api.ErrSize},
		{api.Form{Kind: api.FormString, Text: strings.Repeat("x", 131073)}, api.ErrWords},
		{api.Form{Kind: api.FormString, Text: strings.Repeat("x", 600000)}, api.ErrWords},
	} {
		before, used := w.Symbols().Text(), w.Heap().Used()
		if y, e := w.Build(x.f); e != x.e || y != 0 || w.Symbols().Text() != before || w.Heap().Used() != used {
			t.Errorf("Build(%.200v) = %d, %v", x.f, y, e)
		}
	}
	if x, e := w.Build(forms.Symbol("KEYWORD", long[1:])); e != api.OK || shown(t, w, x) != ":"+strings.ToLower(long[1:]) {
		t.Errorf("Build of a long name: %v", e)
	}
	if x, e := w.Build(api.Form{Kind: api.FormString, Text: strings.Repeat("x", 131072)}); e != api.OK || w.Heap().Len(x) != 131072 {
		t.Errorf("Build of a long string: %v", e)
	}
}

// Build needs just the words of the objects that it makes, and changes nothing without them.
func TestP20_1BuildRoom(t *testing.T) {
	for _, s := range []string{
		"(1 2 . 3)", "\"12345678\"", "\"123456789\"", "#(1 \"a\" b)", "#2a((1 b) (2 c))", "(b cl-user::b common-lisp-user::b :b #:b #:b :c c)", "(car cl-user::car list sequence cl::sequence)", "#1=(b . #1#)", "#c(1/2 1000000000000000000000000)", "(#*0101 #\\a 1.5 1.5d0)", "cl::nobody", "nil",
	} {
		w := newWorld(t)
		f := read(t, s)
		used := w.Heap().Used()
		if _, e := w.Build(f); e != api.OK {
			t.Fatal(e)
		}
		size := w.Heap().Used() - used
		for _, less := range []int{0, 1} {
			w := newWorld(t)
			fill(t, w, max(0, size-less))
			text, used := w.Symbols().Text(), w.Heap().Used()
			x, e := w.Build(f)
			if less == 0 && e != api.OK {
				t.Errorf("Build(%s) with just enough words: %v", s, e)
			}
			if less == 1 && size > 0 && (e != api.ErrWords || x != 0 || w.Symbols().Text() != text || w.Heap().Used() != used) {
				t.Errorf("Build(%s) with a word too few = %d, %v", s, x, e)
			}
		}
	}
}

// fill takes all words of a heap but so many.
func fill(t *testing.T, w *lib.World, left int) {
	t.Helper()
	for {
		n := w.Heap().Limit() - w.Heap().Used() - left
		if n <= 0 {
			return
		}
		if _, e := w.Heap().New(heap.KindVector, min(n-1, 16384)); e != api.OK {
			t.Fatal(e)
		}
	}
}

// crowd makes symbols until there is room for so many more.
func crowd(t *testing.T, w *lib.World, left int) {
	t.Helper()
	for {
		if _, _, e := w.Symbols().Symbol(api.MaxSymbols - left - 1); e == api.OK {
			return
		}
		if _, e := w.Symbols().Fresh("X"); e != api.OK {
			t.Fatal(e)
		}
	}
}

func TestP20_1Full(t *testing.T) {
	w := newWorld(t)
	crowd(t, w, 2)
	before := w.Symbols().Text()
	for _, s := range []string{"(b c d)", "(#:b #:c #:d)", "(b :b #:b)"} {
		if x, e := w.Build(read(t, s)); e != api.ErrFull || x != 0 || w.Symbols().Text() != before {
			t.Errorf("Build(%s): %v", s, e)
		}
	}
	if got := called(t, w, "(intern \"B\")"); got != "b nil" {
		t.Errorf("INTERN of the last symbol but one = %s", got)
	}
	if got := called(t, w, "(intern \"C\")"); got != "c nil" {
		t.Errorf("INTERN of the last symbol = %s", got)
	}
	build(t, w, "(b c b c car)")
	if x, e := w.Symbol("CL-USER", "D"); e != api.ErrFull || x != 0 {
		t.Errorf("Symbol: %v", e)
	}
	symbol(t, w, "CL-USER", "B")
	if e := w.Register("D", 0, 0, func([]heap.Word) lib.Answer { return lib.Answer{} }); e != api.ErrFull {
		t.Errorf("Register: %v", e)
	}
	for _, x := range []struct{ call, want string }{
		{"(intern \"D\")", "! package-error \"COMMON-LISP-USER\""},
		{"(intern \"D\" \"KEYWORD\")", "! package-error \"KEYWORD\""},
		{"(intern \"B\")", "limit 9"},
		{"(find-symbol \"B\")", "limit 9"},
		{"(find-symbol \"D\")", "nil nil"},
		{"(make-symbol \"D\")", "! package-error \"D\""},
		{"(gensym)", "! package-error \"G\""},
		{"(gensym \"D\")", "! package-error \"D\""},
		{"(read-from-string \"d\")", "! parse-error \"d\""},
		{"(read-from-string \"b\")", "b"},
	} {
		if got := called(t, w, x.call); got != x.want {
			t.Errorf("%s = %s in a full table", x.call, got)
		}
	}
	if w.Parts().Counter != 0 {
		t.Error("a fault was counted")
	}
	w = newWorld(t)
	symbol(t, w, "KEYWORD", "INTERNAL")
	symbol(t, w, "COMMON-LISP", "LATE")
	build(t, w, "b")
	crowd(t, w, 0)
	if got := called(t, w, "(intern \"B\")"); got != "b :internal" {
		t.Errorf("INTERN in a full table, with a status that is there = %s", got)
	}
	if e := w.Register("LATE", 0, 0, func([]heap.Word) lib.Answer { return lib.Answer{} }); e != api.OK {
		t.Errorf("Register of a symbol that is there in a full table: %v", e)
	}
}

// Register needs just the words of what it makes.
func TestP20_1RegisterRoom(t *testing.T) {
	for _, name := range []string{"NEW-FUNCTION", "T", "SEQUENCE"} {
		add := func(w *lib.World) api.Errno {
			return w.Register(name, 0, 0, func([]heap.Word) lib.Answer { return lib.Answer{} })
		}
		w := newWorld(t)
		used := w.Heap().Used()
		if e := add(w); e != api.OK {
			t.Fatal(e)
		}
		size := w.Heap().Used() - used
		for _, left := range []int{1, size - 1, size} {
			w := newWorld(t)
			fill(t, w, left)
			text, used := w.Symbols().Text(), w.Heap().Used()
			e := add(w)
			if left < size && (e != api.ErrWords || w.Symbols().Text() != text || w.Heap().Used() != used) || left == size && e != api.OK {
				t.Errorf("Register(%s) with %d words of %d: %v", name, left, size, e)
			}
		}
	}
}

// Where there is no room for a symbol's object, nothing is changed.
func TestP20_1Room(t *testing.T) {
	for _, s := range []string{"(intern \"NEW\")", "(intern \"NEW\" \"KEYWORD\")", "(make-symbol \"NEW\")", "(gensym)", "(gensym \"NEW\")", "(find-symbol \"CAR\")", "(intern \"LIST\" \"CL\")", "(intern \"SEQUENCE\")", "(read-from-string \"(new :new)\")"} {
		w := newWorld(t)
		build(t, w, s)
		used := w.Heap().Used()
		build(t, w, s)
		again := w.Heap().Used() - used // what the arguments take
		before := w.Heap().Used() + again
		want := called(t, w, s)
		size := w.Heap().Used() - before
		for _, left := range []int{0, size / 2, size - 1, size} {
			w := newWorld(t)
			build(t, w, s) // makes the symbol of the function
			fill(t, w, again+max(left, 0))
			text, counter := w.Symbols().Text(), w.Parts().Counter
			got := called(t, w, s)
			if left < size && (got != "limit 11" || w.Symbols().Text() != text || w.Parts().Counter != counter) {
				t.Errorf("%s with %d words of %d = %s", s, left, size, got)
			}
			if left == size && got != want {
				t.Errorf("%s with just enough words = %s", s, got)
			}
		}
	}
	w := newWorld(t)
	fill(t, w, 8)
	text := w.Symbols().Text()
	for _, f := range []func() api.Errno{
		func() api.Errno { _, e := w.Symbol("KEYWORD", "123456789"); return e },
		func() api.Errno {
			return w.Register("R", 0, 0, func([]heap.Word) lib.Answer { return lib.Answer{} })
		},
	} {
		if e := f(); e != api.ErrWords || w.Symbols().Text() != text {
			t.Errorf("without room: %v", e)
		}
	}
	if x, e := w.Symbol("COMMON-LISP", "HASH-TABLE"); e != api.ErrWords || x != 0 {
		t.Errorf("the object of a symbol that is there: %v", e)
	}
	symbol(t, w, "KEYWORD", "12345678")
}

// All calls that make something tell of a lack of words.
func TestP20_1Words(t *testing.T) {
	for _, s := range []string{"(cons 1 2)", "(list 1 2)", "(list* 1 2)", "(append (1) 2)", "(reverse (1))", "(copy-list (1))", "(+ 1152921504606846975 1)", "(/ 1 2)", "(floor 7/2)", "(sqrt)", "(complex 1 2)", "(float 1)", "(symbol-name car)", "(symbol-package car)", "(concat \"a\")", "(subseq \"abc\" 1)", "(subseq (1 2) 1)", "(subseq #(1 2) 1)", "(subseq #*01 0)", "(string #\\a)", "(vector 1 2)", "(make-array 3)", "(make-array (2 2))", "(array-dimensions #(1))", "(make-hash-table eq)", "(prin1-to-string 5)", "(read-from-string \"(1)\")", "(format nil \"x\")"} {
		w := newWorld(t)
		l := build(t, w, s)
		var words []heap.Word
		for w.Heap().Kind(l) == heap.KindCons {
			x, _ := w.Heap().Get(l, 0)
			words = append(words, x)
			l, _ = w.Heap().Get(l, 1)
		}
		fill(t, w, 0)
		if a := w.Call(words[0], words[1:]); (a.Kind != lib.AnswerLimit || a.Code != api.ErrWords || len(a.Values) > 0) && s != "(sqrt)" {
			t.Errorf("%s without words: %s", s, told(t, w, a))
		}
	}
	w := newWorld(t)
	fifty := build(t, w, "\""+strings.Repeat("x", 3000)+"\"")
	if a := w.Call(symbol(t, w, "COMMON-LISP", "CONCAT"), slices.Repeat([]heap.Word{fifty}, 44)); a.Kind != lib.AnswerLimit || a.Code != api.ErrWords {
		t.Errorf("CONCAT of 132000 characters: %v", a.Kind)
	}
	table := w.Call(symbol(t, w, "COMMON-LISP", "MAKE-HASH-TABLE"), []heap.Word{symbol(t, w, "COMMON-LISP", "EQ")}).Values[0]
	fill(t, w, 0)
	if a := w.Call(symbol(t, w, "COMMON-LISP", "%PUTHASH"), []heap.Word{fix(1), table, fix(2)}); a.Kind != lib.AnswerLimit || a.Code != api.ErrWords {
		t.Errorf("%%PUTHASH without words: %v", a)
	}
	if got := told(t, w, w.Call(symbol(t, w, "COMMON-LISP", "HASH-TABLE-COUNT"), []heap.Word{table})); got != "0" {
		t.Errorf("%s keys behind %%PUTHASH without words", got)
	}
}

func TestP20_1Show(t *testing.T) {
	w := newWorld(t)
	h := w.Heap()
	names := map[int]string{heap.KindTable: "table", heap.KindEntry: "entry", heap.KindClosure: "closure", heap.KindCode: "closure", heap.KindBuiltin: "builtin", heap.KindClass: "class", heap.KindInstance: "instance", heap.KindGeneric: "generic", heap.KindMethod: "method", heap.KindWeak: "weak", heap.KindPackage: "package", heap.KindBox: "box", heap.KindEphemeron: "ephemeron"}
	for kind := heap.KindTable; kind <= heap.KindLast; kind++ {
		x, _ := h.New(kind, 2)
		y, _ := h.Raw(kind, "ab")
		want := names[kind]
		if want == "" {
			want = "object"
		}
		if got := shown(t, w, x, y); got != "%::"+want+" %::"+want {
			t.Errorf("Show of the kind %d = %s", kind, got)
		}
	}
	if got := shown(t, w, heap.Unbound); got != "%::unbound" {
		t.Errorf("Show of Unbound = %s", got)
	}
	for _, x := range []heap.Word{7, 4, 10, heap.Word(1<<40 | 3), heap.Nil + 8, 2 + 8} {
		if f, e := w.Show(x); e != heap.ErrWord || f.Kind != 0 {
			t.Errorf("Show(%d) = %v, %v", x, f, e)
		}
	}
	boxed, _ := h.New(heap.KindBox, 1)
	l, _ := h.New(heap.KindCons, 2)
	h.Set(l, 0, boxed)
	h.Set(l, 1, boxed)
	if got := shown(t, w, l); got != "(%::box . %::box)" {
		t.Errorf("Show of what is shared without identity = %s", got)
	}
}

// What has no right form has ErrSize.
func TestP20_1ShowSizes(t *testing.T) {
	w := newWorld(t)
	h := w.Heap()
	list := func(n int, car heap.Word) heap.Word {
		out := heap.Nil
		for range n {
			c, e := h.New(heap.KindCons, 2)
			if e != api.OK {
				t.Fatal(e)
			}
			h.Set(c, 0, car)
			h.Set(c, 1, out)
			out = c
		}
		return out
	}
	nested := func(n int) heap.Word {
		out := heap.Nil
		for range n {
			c, _ := h.New(heap.KindVector, 1)
			h.Set(c, 0, out)
			out = c
		}
		return out
	}
	raw := func(kind int, s string) heap.Word {
		x, _ := h.Raw(kind, s)
		return x
	}
	vector := func(fields ...heap.Word) heap.Word {
		x, _ := h.New(heap.KindVector, len(fields))
		for i, y := range fields {
			h.Set(x, i, y)
		}
		return x
	}
	array := func(dims, elements heap.Word) heap.Word {
		x, _ := h.New(heap.KindArray, 2)
		h.Set(x, 0, dims)
		h.Set(x, 1, elements)
		return x
	}
	var shared, distinct heap.Word = heap.Nil, heap.Nil
	for range 1001 {
		s := raw(heap.KindString, "x")
		for range 2 {
			c := list(1, s)
			h.Set(c, 1, shared)
			shared = c
		}
	}
	for range 1000 {
		c := list(1, raw(heap.KindString, "x"))
		h.Set(c, 1, distinct)
		distinct = c
	}
	for _, x := range []struct {
		name string
		word heap.Word
		e    api.Errno
	}{
		{"1998 elements", list(1998, fix(1)), api.OK},
		{"1999 elements", list(1999, fix(1)), api.ErrSize},
		{"5000 elements", list(5000, fix(1)), api.ErrSize},
		{"1000 strings", distinct, api.OK},
		{"a vector of the depth 100", nested(99), api.OK},
		{"a vector of the depth 101", nested(100), api.ErrSize},
		{"a vector of the depth 3000", nested(3000), api.ErrSize},
		{"many labels", shared, api.ErrSize},
		{"a number that is none", raw(heap.KindInt, "01"), api.ErrSize},
		{"a string that is no text", raw(heap.KindString, "\xff"), api.ErrSize},
		{"bits that are none", raw(heap.KindBits, "012"), api.ErrSize},
		{"a large vector", vector(make([]heap.Word, 2000)...), api.ErrSize},
		{"an array with one dimension", array(vector(fix(1)), vector(fix(1))), api.ErrSize},
		{"an array with a large dimension", array(vector(fix(0), fix(2001)), vector()), api.ErrSize},
		{"an array with too few elements", array(vector(fix(1), fix(2)), vector(fix(1))), api.ErrSize},
		{"an array", array(vector(fix(1), fix(2)), vector(fix(1), fix(5))), api.OK},
	} {
		if f, e := w.Show(x.word); e != x.e || (e == api.OK) != (f.Kind != 0) {
			t.Errorf("Show of %s: %v", x.name, e)
		}
	}
	for _, x := range []heap.Word{array(fix(1), fix(2)), array(vector(), fix(2)), array(fix(1), vector(fix(2))), array(vector(fix(-1)), vector()), array(vector(heap.Nil), vector())} {
		if got := shown(t, w, x); got != "%::object" {
			t.Errorf("Show of an array that is none = %s", got)
		}
	}
}

func TestP20_1Calls(t *testing.T) {
	w := newWorld(t)
	h := w.Heap()
	closure, _ := h.New(heap.KindClosure, 2)
	code, _ := h.New(heap.KindCode, 1)
	box, _ := h.New(heap.KindBox, 1)
	stray, _ := h.New(heap.KindBuiltin, 1)
	h.Set(stray, 0, fix(5000))
	empty, _ := h.New(heap.KindBuiltin, 0)
	a, b, c := symbol(t, w, "CL-USER", "A"), symbol(t, w, "CL-USER", "B"), symbol(t, w, "CL-USER", "C")
	w.SetFunction(a, closure)
	w.SetFunction(b, a)
	w.SetFunction(c, c)
	car, funcall, apply := symbol(t, w, "COMMON-LISP", "CAR"), symbol(t, w, "COMMON-LISP", "FUNCALL"), symbol(t, w, "COMMON-LISP", "APPLY")
	f, _ := w.Function(car)
	args := []heap.Word{fix(1), fix(2)}
	for _, x := range []struct {
		function heap.Word
		args     []heap.Word
		want     string
	}{
		{closure, args, "next %::closure 1 2"},
		{code, nil, "next %::closure"},
		{a, args, "next %::closure 1 2"},
		{b, args, "next %::closure 1 2"},
		{c, args, "! type-error c function"},
		{f, []heap.Word{heap.Nil}, "nil"},
		{car, []heap.Word{heap.Nil}, "nil"},
		{symbol(t, w, "CL-USER", "D"), args, "! undefined-function d"},
		{box, args, "! type-error %::box function"},
		{fix(5), nil, "! type-error 5 function"},
		{heap.Unbound, nil, "! type-error %::unbound function"},
		{stray, nil, "! type-error %::builtin function"},
		{empty, nil, "! type-error nil function"[:0] + "! type-error %::builtin function"},
		{funcall, []heap.Word{closure, fix(5)}, "next %::closure 5"},
		{funcall, []heap.Word{a}, "next %::closure"},
		{funcall, []heap.Word{funcall, a, fix(1)}, "next %::closure 1"},
		{apply, []heap.Word{a, fix(1), build(t, w, "(2 3)")}, "next %::closure 1 2 3"},
		{apply, []heap.Word{code, heap.Nil}, "next %::closure"},
		{7, nil, "limit 170"},
		{heap.Word(1<<40 | 3), nil, "limit 170"},
		{car, []heap.Word{7}, "limit 170"},
		{car, []heap.Word{fix(1), fix(2), heap.Word(1<<40 | 3)}, "limit 170"},
		{fix(5), []heap.Word{4}, "limit 170"},
	} {
		if got := told(t, w, w.Call(x.function, x.args)); got != x.want {
			t.Errorf("Call(%d, %v) = %s, want %s", x.function, x.args, got, x.want)
		}
	}
	got := w.Call(closure, args)
	args[0] = fix(9)
	if got.Function != closure || got.Values[0] != fix(1) {
		t.Errorf("Call of a closure = %v", got)
	}
}

func TestP20_1Register(t *testing.T) {
	w := newWorld(t)
	var seen []heap.Word
	echo := func(args []heap.Word) lib.Answer {
		seen = args
		return lib.Answer{Values: args}
	}
	if e := w.Register("ECHO", 1, 2, echo); e != api.OK {
		t.Fatal(e)
	}
	s := symbol(t, w, "COMMON-LISP", "ECHO")
	if _, status, _ := w.Symbols().Find("CL-USER", "ECHO"); status != symbols.Inherited {
		t.Error("ECHO is not exported")
	}
	f, _ := w.Function(s)
	if index, _ := w.Heap().Get(f, 0); index != fix(int64(len(lib.Names()))) {
		t.Errorf("ECHO has the index %d", index)
	}
	for _, x := range []struct{ call, want string }{
		{"(echo)", "! program-error echo"}, {"(echo 1)", "1"}, {"(echo 1 a)", "1 a"}, {"(echo 1 2 3)", "! program-error echo"}, {"(funcall echo 1)", "1"}, {"(apply echo 1 (2))", "1 2"},
	} {
		if got := called(t, w, x.call); got != x.want {
			t.Errorf("%s = %s", x.call, got)
		}
	}
	args := []heap.Word{fix(1)}
	got := w.Call(s, args)
	seen[0] = fix(7)
	if args[0] != fix(1) {
		t.Error("a function was given the memory of its caller")
	}
	_ = got
	if e := w.Register("REST", 1, -1, func([]heap.Word) lib.Answer {
		return lib.Answer{Kind: lib.AnswerFault, Fault: lib.Fault{Type: "MINE", Data: []heap.Word{fix(3)}}}
	}); e != api.OK {
		t.Fatal(e)
	}
	w.Register("LIMIT", 0, 0, func([]heap.Word) lib.Answer { return lib.Answer{Kind: lib.AnswerLimit, Code: 77} })
	w.Register("NEXT", 0, 0, func([]heap.Word) lib.Answer {
		return lib.Answer{Kind: lib.AnswerNext, Function: s, Values: []heap.Word{fix(1)}}
	})
	w.Register("NONE", 0, -2, echo)
	w.Register("PANIC", 0, 0, func([]heap.Word) lib.Answer { panic("x") })
	for _, x := range []struct{ call, want string }{
		{"(rest)", "! program-error rest"}, {"(rest 1 2 3)", "! mine 3"}, {"(funcall rest 1)", "! mine 3"}, {"(limit)", "limit 77"}, {"(funcall limit)", "limit 77"}, {"(next)", "next echo 1"}, {"(funcall next)", "next echo 1"}, {"(none)", "! program-error none"}, {"(panic)", "limit 1"},
	} {
		if got := called(t, w, x.call); got != x.want {
			t.Errorf("%s = %s", x.call, got)
		}
	}
	before := w.Symbols().Text()
	for _, x := range []struct {
		name  string
		least int
		f     func([]heap.Word) lib.Answer
		e     api.Errno
	}{
		{"CAR", -1, nil, api.ErrTwice}, {"ECHO", 0, echo, api.ErrTwice}, {"NEW", 0, nil, api.ErrArg}, {"NEW", -1, echo, api.ErrArg}, {strings.Repeat("N", 61), 0, echo, api.ErrSize}, {strings.Repeat("N", 61), 0, nil, api.ErrArg},
	} {
		if e := w.Register(x.name, x.least, 3, x.f); e != x.e || w.Symbols().Text() != before {
			t.Errorf("Register(%s, %d): %v", x.name, x.least, e)
		}
	}
	symbol(t, w, "CL-USER", "MINE")
	before = w.Symbols().Text()
	if e := w.Register("MINE", 0, 0, echo); e != symbols.ErrClash || w.Symbols().Text() != before {
		t.Errorf("Register of a name that is another symbol elsewhere: %v", e)
	}
	w.Symbols().Shadow("CL-USER", "MINE")
	if e := w.Register("MINE", 0, 0, echo); e != api.OK {
		t.Errorf("Register of a name that is shadowed elsewhere: %v", e)
	}
	if other := newWorld(t); called(t, other, "(echo 1)") != "! undefined-function echo" {
		t.Error("another world has the function, too")
	}
}

// saved returns what Restore needs of a world, with further words.
func saved(t *testing.T, w *lib.World, words ...heap.Word) (lib.Parts, []heap.Cell, []heap.Field) {
	t.Helper()
	p := w.Parts()
	all := slices.Clone(p.Words)
	for i := range 5 {
		x, _ := w.Heap().Get(heap.Nil, i)
		all = append(all, x)
	}
	cells, fields, e := w.Heap().Cells(append(all, words...))
	if e != api.OK {
		t.Fatal(e)
	}
	return p, cells, fields
}

func TestP20_1Restore(t *testing.T) {
	w := newWorld(t)
	for _, s := range []string{"(set x (1 2 y))", "(%fset y car)", "(%set-plist x (a #1=(b . #1#)))", "(%set-plist nil 7)", "(princ \"hello\")", "(gensym)", "(intern \"NEW\" \"KEYWORD\")"} {
		called(t, w, s)
	}
	l := build(t, w, "(x y #:z)")
	p, cells, fields := saved(t, w, l, fix(3), heap.Nil)
	if p.Output != "hello" || p.Counter != 1 || p.Numbers[0] != 0 || !slices.IsSorted(p.Numbers) || len(p.Words) != len(p.Numbers) || p.Words[0] != heap.Nil || p.Table != w.Symbols().Text() {
		t.Errorf("Parts = %v", p)
	}
	for i, number := range p.Numbers {
		name, home, _ := w.Symbols().Symbol(number)
		if gotHome, got, e := w.Name(p.Words[i]); e != api.OK || got != name || gotHome != home {
			t.Errorf("the object of the symbol %d is that of %s", number, got)
		}
	}
	p.Words = nil
	v, words, e := lib.Restore(api.MaxWords, 500, p, cells, fields)
	if e != api.OK {
		t.Fatal(e)
	}
	if got := shown(t, v, words...); got != "(x y #:z) 3 nil" {
		t.Errorf("Restore returns %s", got)
	}
	if v.Output() != "hello" || v.Symbols().Text() != w.Symbols().Text() || v.Parts().Counter != 1 || !slices.Equal(v.Parts().Numbers, p.Numbers) {
		t.Errorf("Restore makes another world")
	}
	if w.Heap().Used() < v.Heap().Used() {
		t.Errorf("the world that was restored has %d words, the other one %d", v.Heap().Used(), w.Heap().Used())
	}
	for _, s := range []string{"(symbol-value x)", "(y (5))", "(symbol-plist x)", "(symbol-plist nil)", "(gensym)", "(list t nil)", "(car 1)", "(null nil)", "(symbol-name nil)", "(intern \"NEW\" \"KEYWORD\")", "(intern \"OTHER\")", "(symbol-value :new)"} {
		if one, two := called(t, w, s), called(t, v, s); one != two {
			t.Errorf("%s = %s, and %s in the world that was restored", s, one, two)
		}
	}
}

func TestP20_1RestoreErrors(t *testing.T) {
	w := newWorld(t)
	p, cells, fields := saved(t, w, fix(1))
	cellOf := func(i int) int { return fields[i].Object } // the index of the cell of the symbol i
	for _, x := range []struct {
		name   string
		e      api.Errno
		limit  int
		change func(p *lib.Parts, cells *[]heap.Cell, fields *[]heap.Field)
	}{
		{"nothing else", api.OK, 65536, func(p *lib.Parts, c *[]heap.Cell, f *[]heap.Field) {}},
		{"no table", api.ErrForm, 65536, func(p *lib.Parts, c *[]heap.Cell, f *[]heap.Field) {
			p.Table = "x"
			p.Output = strings.Repeat("x", 20001)
		}},
		{"a long table", api.ErrForm, 65536, func(p *lib.Parts, c *[]heap.Cell, f *[]heap.Field) { p.Table = strings.Repeat("x", 300000) }},
		{"a long output", api.ErrLarge, 65536, func(p *lib.Parts, c *[]heap.Cell, f *[]heap.Field) {
			p.Output = strings.Repeat("x", 20001)
			p.Counter = -1
		}},
		{"the longest output", api.OK, 65536, func(p *lib.Parts, c *[]heap.Cell, f *[]heap.Field) { p.Output = strings.Repeat("x", 20000) }},
		{"a counter below 0", api.ErrArg, 5, func(p *lib.Parts, c *[]heap.Cell, f *[]heap.Field) { p.Counter = -1 }},
		{"no numbers", api.ErrArg, 65536, func(p *lib.Parts, c *[]heap.Cell, f *[]heap.Field) { p.Numbers = nil }},
		{"numbers without 0", api.ErrArg, 65536, func(p *lib.Parts, c *[]heap.Cell, f *[]heap.Field) { p.Numbers = p.Numbers[1:] }},
		{"numbers in another order", api.ErrArg, 65536, func(p *lib.Parts, c *[]heap.Cell, f *[]heap.Field) {
			p.Numbers = slices.Clone(p.Numbers)
			p.Numbers[2], p.Numbers[3] = p.Numbers[3], p.Numbers[2]
		}},
		{"a number twice", api.ErrArg, 65536, func(p *lib.Parts, c *[]heap.Cell, f *[]heap.Field) {
			p.Numbers = slices.Clone(p.Numbers)
			p.Numbers[3] = p.Numbers[2]
		}},
		{"0 twice", api.ErrArg, 65536, func(p *lib.Parts, c *[]heap.Cell, f *[]heap.Field) {
			p.Numbers = slices.Clone(p.Numbers)
			p.Numbers[1] = 0
		}},
		{"NIL alone", api.OK, 65536, func(p *lib.Parts, c *[]heap.Cell, f *[]heap.Field) {
			*f = append([]heap.Field{(*f)[0]}, (*f)[len(p.Numbers):]...)
			p.Numbers = []int{0}
		}},
		{"a number of no symbol", api.ErrArg, 65536, func(p *lib.Parts, c *[]heap.Cell, f *[]heap.Field) {
			p.Numbers = append(slices.Clone(p.Numbers[:len(p.Numbers)-1]), 999)
		}},
		{"too few fields", api.ErrArg, 65536, func(p *lib.Parts, c *[]heap.Cell, f *[]heap.Field) { *f = (*f)[:len(*f)-2] }},
		{"just enough fields", api.OK, 65536, func(p *lib.Parts, c *[]heap.Cell, f *[]heap.Field) { *f = (*f)[:len(*f)-1] }},
		{"a small heap", api.ErrArg, 63, func(p *lib.Parts, c *[]heap.Cell, f *[]heap.Field) { *c = append(*c, heap.Cell{}) }},
		{"a heap without room", api.ErrWords, 200, func(p *lib.Parts, c *[]heap.Cell, f *[]heap.Field) {}},
		{"a wrong cell", api.ErrArg, 200, func(p *lib.Parts, c *[]heap.Cell, f *[]heap.Field) { *c = append(*c, heap.Cell{}) }},
		{"a cell with fields and bytes", heap.ErrRaw, 200, func(p *lib.Parts, c *[]heap.Cell, f *[]heap.Field) { *c = append(*c, heap.Cell{Kind: 8, Bytes: "x"}) }},
		{"a wrong field", heap.ErrWord, 200, func(p *lib.Parts, c *[]heap.Cell, f *[]heap.Field) { *f = append(*f, heap.Field{Word: 7, Object: -1}) }},
		{"a symbol with another number", lib.ErrNoSymbol, 65536, func(p *lib.Parts, c *[]heap.Cell, f *[]heap.Field) {
			(*c)[cellOf(3)].Fields[0].Word = fix(4)
		}},
		{"a symbol without a number", lib.ErrNoSymbol, 65536, func(p *lib.Parts, c *[]heap.Cell, f *[]heap.Field) {
			(*c)[cellOf(3)].Fields[0].Word = heap.Unbound
		}},
		{"a symbol with another name", lib.ErrNoSymbol, 65536, func(p *lib.Parts, c *[]heap.Cell, f *[]heap.Field) {
			(*c)[(*c)[cellOf(3)].Fields[1].Object].Bytes = "OTHER"
		}},
		{"a symbol whose name is no string", lib.ErrNoSymbol, 65536, func(p *lib.Parts, c *[]heap.Cell, f *[]heap.Field) {
			(*c)[(*c)[cellOf(3)].Fields[1].Object].Kind = heap.KindBits
		}},
		{"a symbol that is none", lib.ErrNoSymbol, 65536, func(p *lib.Parts, c *[]heap.Cell, f *[]heap.Field) { (*c)[cellOf(3)].Kind = heap.KindVector }},
		{"a symbol that is a fixnum", lib.ErrNoSymbol, 65536, func(p *lib.Parts, c *[]heap.Cell, f *[]heap.Field) { (*f)[3] = heap.Field{Word: 8, Object: -1} }},
		{"a symbol without fields", lib.ErrNoSymbol, 65536, func(p *lib.Parts, c *[]heap.Cell, f *[]heap.Field) { (*c)[cellOf(3)].Fields = nil }},
		{"NIL elsewhere", lib.ErrNoSymbol, 65536, func(p *lib.Parts, c *[]heap.Cell, f *[]heap.Field) { (*f)[0] = (*f)[1] }},
		{"another symbol as the first object", lib.ErrNoSymbol, 65536, func(p *lib.Parts, c *[]heap.Cell, f *[]heap.Field) { (*f)[1] = (*f)[0] }},
		{"NIL with another number", lib.ErrNoSymbol, 65536, func(p *lib.Parts, c *[]heap.Cell, f *[]heap.Field) { (*f)[len(p.Numbers)].Word = fix(1) }},
		{"NIL with another name", lib.ErrNoSymbol, 65536, func(p *lib.Parts, c *[]heap.Cell, f *[]heap.Field) {
			(*f)[len(p.Numbers)+1] = heap.Field{Object: -2}
		}},
		{"fewer symbols", api.OK, 65536, func(p *lib.Parts, c *[]heap.Cell, f *[]heap.Field) {
			p.Numbers = slices.Clone(p.Numbers[:5])
			*f = append(slices.Clone((*f)[:5]), (*f)[len(*f)-6:]...)
		}},
	} {
		q, c, f := p, slices.Clone(cells), slices.Clone(fields)
		for i := range c {
			c[i].Fields = slices.Clone(c[i].Fields)
		}
		x.change(&q, &c, &f)
		v, words, e := lib.Restore(x.limit, 1, q, c, f)
		if e != x.e || e != api.OK && (v != nil || words != nil) || e == api.OK && v == nil {
			t.Errorf("Restore with %s: %v", x.name, e)
		}
	}
}

// pool makes a world with objects that are held by roots.
func pool(t *testing.T) (*lib.World, []int) {
	t.Helper()
	w := newWorld(t)
	w.Symbols().Make("P", nil, []string{"CL"})
	var roots []int
	for _, s := range []string{"nil", "t", "x", "y", ":k", "#:g", "car", "funcall", "list", "0", "1", "2", "-1", "7", "100000000000000000000", "1/2", "1.5", "-2.5d0", "#c(1 2)", "#\\a", "#\\A", "\"\"", "\"abc\"", "\"x\"", "\"~A~%\"", "\"(x . 1)\"", "\"(\"", "\"P\"", "#*0110", "#()", "#(1 2 3)", "#2a((1 2) (3 4))", "#0a5", "(1)", "(1 2 3)", "((x . 1) nil (y . 2))", "(1 . 2)", "#1=(1 2 . #1#)", "(integer 0 5)", "equal", "eq", "#1=#(#1# 2)", "(2 2)", "null"} {
		roots = append(roots, w.Heap().Root(build(t, w, s)))
	}
	table := w.Call(symbol(t, w, "COMMON-LISP", "MAKE-HASH-TABLE"), []heap.Word{symbol(t, w, "COMMON-LISP", "EQUAL")}).Values[0]
	closure, _ := w.Heap().New(heap.KindClosure, 2)
	f, _ := w.Function(symbol(t, w, "COMMON-LISP", "+"))
	for _, x := range []heap.Word{table, closure, f, heap.Unbound} {
		roots = append(roots, w.Heap().Root(x))
	}
	return w, roots
}

func wordsOf(w *lib.World, roots []int) []heap.Word {
	var out []heap.Word
	for _, r := range roots {
		x, _ := w.Heap().At(r)
		out = append(out, x)
	}
	return out
}

// state returns all of a world that can be told.
func state(t *testing.T, w *lib.World, roots []int) []any {
	t.Helper()
	p := w.Parts()
	cells, fields, e := w.Heap().Cells(slices.Concat(p.Words, []heap.Word{heap.Nil}, wordsOf(w, roots)))
	if e != api.OK {
		t.Fatal(e)
	}
	var first []heap.Word
	for i := range 5 {
		x, _ := w.Heap().Get(heap.Nil, i)
		if x.IsRef() {
			x = heap.Word(w.Heap().Kind(x))
		}
		first = append(first, x)
	}
	p.Words = nil
	return []any{p, cells, fields, first}
}

// keep moves all objects that are met from roots, in a random order, and lets all others go.
func keep(t *testing.T, r *rand.Rand, w *lib.World) {
	t.Helper()
	h := w.Heap()
	met := map[heap.Word]bool{heap.Nil: true}
	var live []heap.Word
	var meet func(x heap.Word)
	meet = func(x heap.Word) {
		if !x.IsRef() || met[x] {
			return
		}
		met[x] = true
		live = append(live, x)
		for i := range h.Len(x) {
			if y, e := h.Get(x, i); e == api.OK {
				meet(y)
			}
		}
	}
	for i := range 5 {
		x, _ := h.Get(heap.Nil, i)
		meet(x)
	}
	for _, x := range wordsOf(w, h.Roots()) {
		meet(x)
	}
	r.Shuffle(len(live), func(i, k int) { live[i], live[k] = live[k], live[i] })
	n := r.IntN(len(live) + 1)
	if e := h.Keep(live[:n], live[n:]); e != api.OK {
		t.Fatal(e)
	}
}

// randomCall returns a random function, and arguments: the indices of roots.
func randomCall(r *rand.Rand, roots []int) (string, []int) {
	names := lib.Names()
	name := names[r.IntN(len(names))]
	least, most, _ := lib.Arity(name)
	n := least
	if most > least {
		n += r.IntN(most - least + 1)
	} else if most < 0 {
		n += r.IntN(3)
	}
	if r.IntN(20) == 0 {
		n = r.IntN(4)
	}
	var out []int
	for range n {
		out = append(out, roots[r.IntN(len(roots))])
	}
	return name, out
}

// A call that ends with a fault changes nothing; nor does one of a pure function.
func TestP20_4Any(t *testing.T) {
	r := rand.New(rand.NewPCG(20, 4))
	impure := map[string]bool{}
	for _, name := range strings.Fields("RPLACA RPLACD SET MAKUNBOUND %FSET FMAKUNBOUND %SET-PLIST INTERN FIND-SYMBOL MAKE-SYMBOL GENSYM %ASET %PUTHASH REMHASH CLRHASH GETHASH FUNCALL APPLY PRIN1 PRINC PRINT TERPRI WRITE-STRING READ-FROM-STRING FORMAT") {
		impure[name] = true
	}
	var w *lib.World
	var roots []int
	counts := map[int]int{}
	for i := range 5000 {
		if i%200 == 0 {
			w, roots = pool(t)
			for _, name := range typeNames { // their objects are made by the first fault that names them
				symbol(t, w, "COMMON-LISP", name)
			}
		}
		name, args := randomCall(r, roots)
		before := state(t, w, roots)
		a := w.Call(symbol(t, w, "COMMON-LISP", name), wordsOf(w, args))
		counts[a.Kind]++
		if a.Kind == lib.AnswerLimit && a.Code != api.ErrWords {
			t.Fatalf("(%s %s): %v", name, shown(t, w, wordsOf(w, args)...), a)
		}
		if after := state(t, w, roots); (a.Kind == lib.AnswerFault || !impure[name]) && !reflect.DeepEqual(after, before) {
			t.Fatalf("(%s %s) = %s changes something", name, shown(t, w, wordsOf(w, args)...), told(t, w, a))
		}
		for _, x := range append(a.Values, a.Fault.Data...) {
			if r.IntN(4) == 0 {
				roots = append(roots, w.Heap().Root(x))
			}
		}
	}
	if counts[lib.AnswerValues] < 1000 || counts[lib.AnswerFault] < 1000 {
		t.Errorf("answers: %v", counts)
	}
}

// Moving objects changes no answer.
func TestP20_3Any(t *testing.T) {
	r := rand.New(rand.NewPCG(20, 3))
	for range 40 {
		one, roots := pool(t)
		two, _ := pool(t)
		for range 100 {
			if r.IntN(3) == 0 {
				keep(t, r, two)
			}
			name, args := randomCall(r, roots)
			a := one.Call(symbol(t, one, "COMMON-LISP", name), wordsOf(one, args))
			b := two.Call(symbol(t, two, "COMMON-LISP", name), wordsOf(two, args))
			if x, y := told(t, one, a), told(t, two, b); x != y {
				t.Fatalf("(%s %s) = %s, and %s behind a move", name, shown(t, one, wordsOf(one, args)...), x, y)
			}
			for i := range a.Values {
				if r.IntN(4) == 0 {
					roots = append(roots, one.Heap().Root(a.Values[i]))
					if n := two.Heap().Root(b.Values[i]); n < 0 {
						t.Fatal("no root")
					}
				}
			}
			// The numbers of roots differ where symbols are made at other times: then both begin anew.
			if !slices.Equal(one.Heap().Roots(), two.Heap().Roots()) {
				t.Fatalf("roots: %v and %v", one.Heap().Roots(), two.Heap().Roots())
			}
			if x, y := shownAll(one, roots), shownAll(two, roots); x != y {
				t.Fatalf("behind (%s ..): %s\n%s", name, x, y)
			}
		}
	}
}

func shownAll(w *lib.World, roots []int) string {
	var out []string
	for _, x := range wordsOf(w, roots) {
		f, e := w.Show(x)
		s, _ := printer.Text(f, true)
		out = append(out, s+e.Error())
		for _, get := range []func(heap.Word) (heap.Word, api.Errno){w.Value, w.Function} {
			y, e := get(x)
			f, _ := w.Show(y)
			s, _ := printer.Text(f, true)
			out = append(out, s+e.Error())
		}
	}
	return strings.Join(out, " ")
}

func TestP20_5Any(t *testing.T) {
	r := rand.New(rand.NewPCG(20, 5))
	w, roots := pool(t)
	call := func(name string, args ...heap.Word) heap.Word {
		a := w.Call(symbol(t, w, "COMMON-LISP", name), args)
		if a.Kind != lib.AnswerValues || len(a.Values) == 0 {
			t.Fatalf("(%s %s) = %s", name, shown(t, w, args...), told(t, w, a))
		}
		return a.Values[0]
	}
	truth := symbol(t, w, "COMMON-LISP", "T")
	for i := range 1000 {
		if i%20 == 0 {
			w, roots = pool(t)
			truth = symbol(t, w, "COMMON-LISP", "T")
		}
		words := wordsOf(w, roots)
		random := func(n int) []heap.Word {
			var out []heap.Word
			for range n {
				out = append(out, words[r.IntN(len(words))])
			}
			return out
		}
		x, y := random(1)[0], random(1)[0]
		if c := call("CONS", x, y); call("CAR", c) != x || call("CDR", c) != y || call("CONSP", c) != truth {
			t.Fatal("CAR and CDR of CONS")
		}
		l, m := random(r.IntN(6)), random(r.IntN(6))
		a, b := call("LIST", l...), call("LIST", m...)
		sum := call("+", call("LENGTH", a), call("LENGTH", b))
		if call("LENGTH", call("APPEND", a, b)) != sum || call("LENGTH", a) != fix(int64(len(l))) {
			t.Fatal("LENGTH of APPEND")
		}
		for _, other := range []heap.Word{call("REVERSE", call("REVERSE", a)), call("COPY-LIST", a), call("SUBSEQ", a, fix(0)), call("APPEND", a, heap.Nil)} {
			if call("EQUAL", a, other) != truth || len(l) > 0 && other == a {
				t.Fatalf("%s is not a copy of %s", shown(t, w, other), shown(t, w, a))
			}
		}
		for k, x := range l {
			if call("NTH", fix(int64(k)), a) != x || call("CAR", call("NTHCDR", fix(int64(k)), a)) != x {
				t.Fatalf("NTH %d of %s", k, shown(t, w, a))
			}
		}
	}
}

func TestP20_6Symbols(t *testing.T) {
	w := newWorld(t)
	call := func(name string, args ...heap.Word) []heap.Word {
		return w.Call(symbol(t, w, "COMMON-LISP", name), args).Values
	}
	met := map[heap.Word]bool{}
	for i := range 200 {
		name := build(t, w, "\"N"+strconv.Itoa(i/2)+"\"")
		one, two := call("INTERN", name)[0], call("INTERN", name)[0]
		if one != two {
			t.Fatalf("INTERN twice: %d and %d", one, two)
		}
		met[one] = true
		g := call("GENSYM")[0]
		if met[g] {
			t.Fatalf("GENSYM returns %s twice", shown(t, w, g))
		}
		met[g] = true
		call("SET", g, name)
		call("%SET-PLIST", g, one)
		f := call("%FSET", g, symbol(t, w, "COMMON-LISP", "CAR"))[0]
		if call("SYMBOL-VALUE", g)[0] != name || call("SYMBOL-PLIST", g)[0] != one || call("SYMBOL-FUNCTION", g)[0] != f {
			t.Fatal("what was put is not there")
		}
	}
}

// Somebody else may take all objects and roots away.
func TestP20_1Robust(t *testing.T) {
	w := newWorld(t)
	h := w.Heap()
	for _, r := range h.Roots() {
		h.Drop(r)
	}
	if e := h.Keep(nil, nil); e != api.OK {
		t.Fatal(e)
	}
	if got := called(t, w, "(car 1)"); got != "! undefined-function car" {
		t.Errorf("(car 1) = %s", got)
	}
	if symbol(t, w, "COMMON-LISP", "NIL") != heap.Nil {
		t.Error("NIL is another object")
	}
	w.Parts()
	for _, kind := range []int{heap.KindSymbol, heap.KindCons, heap.KindString, heap.KindInt, heap.KindComplex, heap.KindArray, heap.KindTable, heap.KindBuiltin, heap.KindVector, heap.KindBits, heap.KindSingle} {
		for _, n := range []int{0, 1, 2, 5} {
			w := newWorld(t)
			x, _ := w.Heap().New(kind, n)
			y, _ := w.Heap().Raw(kind, strings.Repeat("1", n))
			for i := range n {
				w.Heap().Set(x, i, x)
			}
			for _, name := range lib.Names() {
				for _, args := range [][]heap.Word{{x}, {y}, {x, y}, {y, x}, {x, x}, {y, fix(0)}, {x, fix(0)}, {fix(0), x}, {y, fix(0), fix(0)}, {x, fix(0), x}} {
					if a := w.Call(symbol(t, w, "COMMON-LISP", name), args); a.Kind == lib.AnswerLimit && a.Code != api.ErrWords {
						t.Fatalf("%s of objects of the kind %d with %d fields: %v", name, kind, n, a)
					}
				}
			}
			w.Value(x)
			w.SetValue(x, fix(1))
			w.Name(x)
			w.Show(x)
			w.Show(y)
			w.Call(x, nil)
		}
	}
}
