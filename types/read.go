package types

import (
	"slices"
	"strconv"

	"commonform/api"
	"commonform/forms"
	"commonform/number"
)

const (
	maxNesting = 4 // of CONS
	maxBits    = 200
	maxMod     = 1000000000
	maxLength  = 50
	maxRank    = 4 // of ARRAY, and of its dimensions the greatest one
	leastFix   = "-1152921504606846976"
	mostFix    = "1152921504606846975"
)

// reader reads type specifiers. It keeps the types of parts of conses, which are known by their numbers, and what the types name.
type reader struct {
	names map[string]func() spec
	parts []api.Form
	marks marks
}

// read returns types, and what they name, or the first error.
func read(l ...api.Form) (types []spec, m marks, e api.Errno) {
	defer func() {
		if code, ok := recover().(api.Errno); ok {
			types, m, e = nil, marks{}, code
		}
	}()
	var r reader
	r.names = r.named()
	for _, t := range l {
		if !isSmall(t) {
			fail()
		}
		types = append(types, r.spec(t, 0))
	}
	return types, r.marks, api.OK
}

// fail leaves what is being read.
func fail() { panic(ErrType) }

// isSmall reports whether a form is right, with not too many nodes, and no number that is too long or none.
func isSmall(t api.Form) bool {
	nodes, _ := forms.Size(t)
	return nodes <= maxNodes && forms.Check(t) == api.OK && !hasLong(t)
}

func hasLong(t api.Form) bool {
	return forms.Number(t) && (len(t.Text) > maxDigits || number.Check(t) != api.OK) || slices.ContainsFunc(t.Kids, hasLong)
}

// spec reads a type that stands in some conses.
func (r *reader) spec(t api.Form, nesting int) spec {
	if t.Kind == api.FormSymbol && t.Home == commonLisp {
		of, ok := r.names[t.Text]
		if !ok {
			fail()
		}
		return of()
	}
	l, ok := forms.Items(t)
	if !ok || l[0].Kind != api.FormSymbol || l[0].Home != commonLisp {
		fail()
	}
	return r.list(l[0].Text, l[1:], nesting)
}

// named returns what makes the types that have names.
func (r *reader) named() map[string]func() spec {
	of := func(kinds ...int) func() spec {
		return func() spec { return ofKinds(kinds...) }
	}
	integers := func(low, high string) spec {
		return r.between(closed(whole(low)), closed(whole(high)), api.FormInt)
	}
	fixnum := func() spec { return integers(leastFix, mostFix) }
	null := func() spec { return r.equalTo(forms.Nil()) }
	conses := func() spec { return r.conses(symbol("T"), symbol("T"), 0) }
	list := func() spec { return either(conses(), null()) }
	vector := of(api.FormString, api.FormBits, api.FormVector)
	return map[string]func() spec{
		"T":             all,
		"NIL":           func() spec { return either() },
		"ATOM":          func() spec { return not(conses()) },
		"CONS":          conses,
		"NULL":          null,
		"LIST":          list,
		"SYMBOL":        symbols,
		"KEYWORD":       keywords,
		"BOOLEAN":       func() spec { return either(r.equalTo(symbol("T")), null()) },
		"NUMBER":        of(api.FormInt, api.FormRatio, api.FormSingle, api.FormDouble, api.FormComplex),
		"REAL":          of(api.FormInt, api.FormRatio, api.FormSingle, api.FormDouble),
		"RATIONAL":      of(api.FormInt, api.FormRatio),
		"INTEGER":       of(api.FormInt),
		"RATIO":         of(api.FormRatio),
		"FLOAT":         of(api.FormSingle, api.FormDouble),
		"SINGLE-FLOAT":  of(api.FormSingle),
		"DOUBLE-FLOAT":  of(api.FormDouble),
		"COMPLEX":       of(api.FormComplex),
		"BIT":           func() spec { return integers("0", "1") },
		"FIXNUM":        fixnum,
		"BIGNUM":        func() spec { return both(ofKinds(api.FormInt), not(fixnum())) },
		"UNSIGNED-BYTE": func() spec { return r.between(closed(whole("0")), bound{}, api.FormInt) },
		"CHARACTER":     of(api.FormChar),
		"STRING":        of(api.FormString),
		"BIT-VECTOR":    of(api.FormBits),
		"SIMPLE-VECTOR": of(api.FormVector),
		"VECTOR":        vector,
		"ARRAY":         of(api.FormString, api.FormBits, api.FormVector, api.FormArray),
		"SEQUENCE":      func() spec { return either(list(), vector()) },
		"FUNCTION":      func() spec { return ofOpaque("BUILTIN", "CLOSURE") },
		"HASH-TABLE":    func() spec { return ofOpaque("TABLE") },
	}
}

func symbol(name string) api.Form { return forms.Symbol(commonLisp, name) }

func isStar(f api.Form) bool { return forms.Is(f, commonLisp, "*") }

func whole(digits string) api.Form { return api.Form{Kind: api.FormInt, Text: digits} }

func ofInt(n int) api.Form { return whole(strconv.Itoa(n)) }

// list reads a type that is a list of a name and others.
func (r *reader) list(name string, l []api.Form, nesting int) spec {
	switch name {
	case "AND":
		return spec{how: ofAll, parts: r.specs(l, nesting)}
	case "OR":
		return either(r.specs(l, nesting)...)
	case "NOT":
		return not(r.spec(only(l), nesting))
	case "MEMBER":
		return r.member(l)
	case "EQL":
		return r.equalTo(only(l))
	case "INTEGER":
		return r.interval(l, []int{api.FormInt}, api.FormInt)
	case "RATIONAL":
		return r.interval(l, []int{api.FormInt, api.FormRatio}, api.FormInt, api.FormRatio)
	case "REAL":
		return r.interval(l, reals(), reals()...)
	case "FLOAT":
		return r.interval(l, reals(), api.FormSingle, api.FormDouble)
	case "SINGLE-FLOAT":
		return r.interval(l, reals(), api.FormSingle)
	case "DOUBLE-FLOAT":
		return r.interval(l, reals(), api.FormDouble)
	case "UNSIGNED-BYTE", "SIGNED-BYTE", "MOD":
		return r.bytes(name, only(l))
	case "CONS":
		return r.consList(l, nesting)
	case "STRING":
		return r.length(only(l), api.FormString)
	case "BIT-VECTOR":
		return r.length(only(l), api.FormBits)
	case "SIMPLE-VECTOR":
		return r.length(only(l), api.FormVector)
	case "VECTOR":
		return r.length(behindStar(l), api.FormString, api.FormBits, api.FormVector)
	case "ARRAY":
		return r.array(behindStar(l))
	}
	panic(ErrType)
}

// only returns the element of a list that must have one.
func only(l []api.Form) api.Form {
	if len(l) != 1 {
		fail()
	}
	return l[0]
}

// behindStar returns the second element of a list that must have two, the first one *.
func behindStar(l []api.Form) api.Form {
	if len(l) != 2 || !isStar(l[0]) {
		fail()
	}
	return l[1]
}

func (r *reader) specs(l []api.Form, nesting int) []spec {
	var out []spec
	for _, t := range l {
		out = append(out, r.spec(t, nesting))
	}
	return out
}

func (r *reader) member(l []api.Form) spec {
	out := either()
	for _, x := range l {
		out.parts = append(out.parts, r.equalTo(x))
	}
	return out
}

// equalTo is the type of one object, which must be a symbol, a number or a character.
func (r *reader) equalTo(x api.Form) spec {
	switch {
	case x.Kind == api.FormSymbol && x.Home != "" && x.Home != opaque, x.Kind == api.FormChar, x.Kind == api.FormComplex:
		r.marks.objects = append(r.marks.objects, x)
	case slices.Contains(reals(), x.Kind):
		r.marks.addValue(x)
	default:
		fail()
	}
	return equalTo(x)
}

func reals() []int { return []int{api.FormInt, api.FormRatio, api.FormSingle, api.FormDouble} }

func closed(x api.Form) bound { return bound{isSet: true, value: x} }

// between is the type of the numbers of some kinds between two bounds.
func (r *reader) between(low, high bound, kinds ...int) spec {
	for _, b := range [...]bound{low, high} {
		if b.isSet {
			r.marks.addValue(b.value)
		}
	}
	return between(low, high, kinds...)
}

// interval reads the bounds of a type of numbers of some kinds; numbers in bounds are of other ones.
func (r *reader) interval(l []api.Form, inBounds []int, kinds ...int) spec {
	var b [2]bound
	if len(l) > len(b) {
		fail()
	}
	for i, x := range l {
		b[i] = readBound(x, inBounds)
	}
	return r.between(b[0], b[1], kinds...)
}

func readBound(x api.Form, kinds []int) bound {
	if isStar(x) {
		return bound{}
	}
	b := bound{isSet: true, value: x}
	if l, ok := forms.Items(x); ok {
		b.isOpen, b.value = true, only(l)
	}
	if !slices.Contains(kinds, b.value.Kind) {
		fail()
	}
	return b
}

// bytes reads a type of integers whose size is given.
func (r *reader) bytes(name string, size api.Form) spec {
	most := maxBits
	if name == "MOD" {
		most = maxMod
	}
	n := natural(size, most)
	if n == 0 {
		fail()
	}
	low, high := whole("0"), size
	switch name {
	case "UNSIGNED-BYTE":
		high, _ = number.Shift(whole("1"), n)
	case "SIGNED-BYTE":
		high, _ = number.Shift(whole("1"), n-1)
		low, _ = number.Neg(high)
	}
	return r.between(closed(low), bound{isSet: true, isOpen: true, value: high}, api.FormInt)
}

// natural returns an integer that must lie from 0 to a number.
func natural(x api.Form, most int) int {
	n, err := strconv.Atoi(x.Text)
	if x.Kind != api.FormInt || err != nil || n < 0 || n > most {
		fail()
	}
	return n
}

// size returns a length or a dimension; * fits each one.
func size(x api.Form, most int) int {
	if isStar(x) {
		return anySize
	}
	return natural(x, most)
}

func (r *reader) consList(l []api.Form, nesting int) spec {
	sides := [2]api.Form{symbol("T"), symbol("T")}
	if len(l) > len(sides) || nesting == maxNesting {
		fail()
	}
	for i, t := range l {
		if !isStar(t) {
			sides[i] = t
		}
	}
	return r.conses(sides[0], sides[1], nesting+1)
}

// conses is the type of the conses whose sides are of two types.
func (r *reader) conses(car, cdr api.Form, nesting int) spec {
	return spec{how: ofConses, parts: r.specs([]api.Form{car, cdr}, nesting), numbers: [2]int{r.number(car), r.number(cdr)}}
}

// number returns the number of a part of conses.
func (r *reader) number(t api.Form) int {
	i := slices.IndexFunc(r.parts, func(x api.Form) bool { return forms.Equal(x, t) })
	if i < 0 {
		i = len(r.parts)
		r.parts = append(r.parts, t)
	}
	return i
}

func (r *reader) length(x api.Form, kinds ...int) spec {
	n := size(x, maxLength)
	r.marks.addLength(n)
	return fit([]int{n}, kinds...)
}

// array reads the rank or the dimensions of an array.
func (r *reader) array(x api.Form) spec {
	all := []int{api.FormString, api.FormBits, api.FormVector, api.FormArray}
	if isStar(x) {
		return ofKinds(all...)
	}
	if x.Kind == api.FormInt {
		return fit(slices.Repeat([]int{anySize}, natural(x, maxRank)), all...)
	}
	l, ok := forms.Items(x)
	if !ok || len(l) > maxRank {
		fail()
	}
	var dims []int
	for _, d := range l {
		dims = append(dims, size(d, maxRank))
	}
	r.marks.addDimensions(dims)
	return fit(dims, all...)
}
