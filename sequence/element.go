package sequence

import (
	"strconv"
	"strings"

	"commonform/api"
	"commonform/number"
)

// sign tells by which test two elements are alike: exactly those with the same sign are. So many elements are compared without looking at each pair of them.
type sign func(x api.Form) string

// signs returns what tells by each test whether elements are alike.
func signs() [testCount]sign {
	return [...]sign{
		Same:  func(x api.Form) string { return written(x, exactly) },
		Loose: func(x api.Form) string { return written(x, loosely) },
	}
}

// written returns the text that a way of writing makes of a form.
func written(x api.Form, write func(out *strings.Builder, x api.Form)) string {
	var out strings.Builder
	write(&out, x)
	return out.String()
}

// put writes a part of a sign with its length, so that no two different lists of parts are written alike.
func put(out *strings.Builder, s string) {
	out.WriteString(strconv.Itoa(len(s)))
	out.WriteByte(':')
	out.WriteString(s)
}

func putNumber(out *strings.Builder, n int) { put(out, strconv.Itoa(n)) }

// exactly writes all parts of a form.
func exactly(out *strings.Builder, x api.Form) {
	putNumber(out, x.Kind)
	put(out, x.Text)
	put(out, x.Home)
	putNumber(out, len(x.Kids))
	for _, kid := range x.Kids {
		exactly(out, kid)
	}
}

// loosely writes what counts by Loose.
func loosely(out *strings.Builder, x api.Form) {
	if value, ok := valueOf(x); ok {
		put(out, value)
		return
	}
	switch x.Kind {
	case api.FormChar, api.FormString:
		putNumber(out, x.Kind)
		put(out, upper(x.Text))
	case api.FormCons, api.FormVector:
		putNumber(out, x.Kind)
		putNumber(out, len(x.Kids))
		for _, kid := range x.Kids {
			loosely(out, kid)
		}
	default:
		exactly(out, x)
	}
}

// valueOf returns a text that two numbers have in common exactly if their values are equal, and that is no text of a kind; false if x is no number.
func valueOf(x api.Form) (string, bool) {
	if number.Check(x) != api.OK {
		return "", false
	}
	re, _ := number.Real(x)
	im, _ := number.Imaginary(x)
	re, _ = number.Rational(re)
	im, _ = number.Rational(im)
	return re.Text + " " + im.Text, true
}

// upper changes the small letters of ASCII to great ones.
func upper(s string) string {
	b := []byte(s)
	for i, c := range b {
		if c >= 'a' && c <= 'z' {
			b[i] = c - 'a' + 'A'
		}
	}
	return string(b)
}

// Alike reports whether two elements are alike by a test.
func Alike(test int, x, y api.Form) (bool, api.Errno) {
	if !isOneOf(test, testCount) {
		return false, api.ErrArg
	}
	of := signs()[test]
	return of(x) == of(y), api.OK
}

// order is one of elements of its kind.
type order struct {
	has  func(x api.Form) bool
	less func(x, y api.Form) bool
}

func orders() [orderCount]order {
	isKind := func(kind int) func(x api.Form) bool {
		return func(x api.Form) bool { return x.Kind == kind }
	}
	byText := func(x, y api.Form) bool { return x.Text < y.Text }
	return [...]order{
		Numbers: {isReal, func(x, y api.Form) bool {
			c, _ := number.Cmp(x, y)
			return c < 0
		}},
		Characters: {isKind(api.FormChar), byText},
		Strings:    {isKind(api.FormString), byText},
	}
}

func isReal(x api.Form) bool { return x.Kind != api.FormComplex && number.Check(x) == api.OK }

// Less reports whether an element is less than another one.
func Less(order int, x, y api.Form) (bool, api.Errno) {
	if !isOneOf(order, orderCount) {
		return false, api.ErrArg
	}
	o := orders()[order]
	if !o.has(x) || !o.has(y) {
		return false, api.ErrType
	}
	return o.less(x, y), api.OK
}

// key takes what of an element counts; false if it has no such part. It shares memory with the element.
type key func(x api.Form) (api.Form, bool)

func keys() [keyCount]key {
	return [...]key{
		Whole:  func(x api.Form) (api.Form, bool) { return x, true },
		First:  first,
		Second: second,
		Length: length,
	}
}

func first(x api.Form) (api.Form, bool) {
	if x.Kind != api.FormCons || len(x.Kids) == 0 {
		return api.Form{}, false
	}
	return x.Kids[0], true
}

func second(x api.Form) (api.Form, bool) {
	if x.Kind != api.FormCons || len(x.Kids) == 0 {
		return api.Form{}, false
	}
	if len(x.Kids) > 2 {
		return x.Kids[1], true
	}
	return first(x.Kids[len(x.Kids)-1])
}

func length(x api.Form) (api.Form, bool) {
	n := 0
	switch x.Kind {
	case api.FormVector:
		n = len(x.Kids)
	case api.FormString:
		n = len(x.Text)
	case api.FormCons:
		n = len(x.Kids) - 1
	default:
		return api.Form{}, false
	}
	return api.Form{Kind: api.FormInt, Text: strconv.Itoa(n)}, true
}

// Taken returns what of an element counts.
func Taken(key int, x api.Form) (api.Form, api.Errno) {
	if !isOneOf(key, keyCount) {
		return api.Form{}, api.ErrArg
	}
	k, ok := keys()[key](x)
	if !ok {
		return api.Form{}, api.ErrType
	}
	return clone(k), api.OK
}

// keysOf returns the keys of all elements, or ErrType.
func keysOf(key int, l []api.Form) ([]api.Form, api.Errno) {
	of := keys()[key]
	var out []api.Form
	for _, x := range l {
		k, ok := of(x)
		if !ok {
			return nil, api.ErrType
		}
		out = append(out, k)
	}
	return out, api.OK
}

// signsOf returns the signs of the keys of all elements, or ErrType.
func signsOf(test, key int, l []api.Form) ([]string, api.Errno) {
	all, e := keysOf(key, l)
	if e != api.OK {
		return nil, e
	}
	of := signs()[test]
	var out []string
	for _, k := range all {
		out = append(out, of(k))
	}
	return out, api.OK
}
