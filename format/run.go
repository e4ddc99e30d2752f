package format

import (
	"bytes"
	"slices"
	"strconv"
	"strings"

	"commonform/api"
	"commonform/number"
	"commonform/printer"
)

// end tells how far performing came.
type end int

const (
	goesOn end = iota
	isEnded
	isAllEnded // the whole iteration over lists
)

// run performs directives; it panics with an error.
type run struct {
	rules     map[byte]rule
	out       writer
	args      *arguments
	lists     *arguments // of the innermost iteration over lists
	performed int
	strings   int // how many control strings of ~? are being performed
}

// perform performs texts and directives one by one.
func (r *run) perform(items []directive) end {
	for _, d := range items {
		if d.char == 0 {
			r.out.put(d.text)
			continue
		}
		r.count()
		if e := r.rules[d.char].perform(r, call{d, r.values(d)}); e != goesOn {
			return e
		}
	}
	return goesOn
}

// count counts what is performed.
func (r *run) count() {
	r.performed++
	if r.performed > maxPerformed {
		fail(api.ErrFull)
	}
}

// arguments are taken one after the other.
type arguments struct {
	list []api.Form
	at   int
}

func (a *arguments) left() int { return len(a.list) - a.at }

func (a *arguments) take() api.Form {
	if a.left() == 0 {
		fail(api.ErrNone)
	}
	a.at++
	return a.list[a.at-1]
}

// moveTo makes another argument the next one; it may be the place behind the last one.
func (a *arguments) moveTo(at int) {
	if at < 0 || at > len(a.list) {
		fail(api.ErrNone)
	}
	a.at = at
}

// rest returns the arguments that are left as a list of their own.
func (a *arguments) rest() *arguments { return &arguments{list: a.list[a.at:]} }

// takeString takes a string.
func (a *arguments) takeString() string {
	x := a.take()
	if x.Kind != api.FormString {
		fail(api.ErrType)
	}
	return x.Text
}

// takeList takes a proper list.
func (a *arguments) takeList() *arguments {
	x := a.take()
	last := len(x.Kids) - 1
	switch {
	case isNil(x):
		return &arguments{}
	case x.Kind != api.FormCons || !isNil(x.Kids[last]):
		fail(api.ErrType)
	}
	return &arguments{list: x.Kids[:last]}
}

func isNil(x api.Form) bool {
	return x.Kind == api.FormSymbol && x.Text == "NIL" && x.Home == "COMMON-LISP"
}

// value is what a parameter is when its directive is performed; n is a number, or the byte of a character.
type value struct {
	isGiven, isCharacter bool
	n                    int
}

// values finds the parameters of a directive.
func (r *run) values(d directive) []value {
	var out []value
	for i, p := range d.params {
		v := r.value(p)
		if want := r.rules[d.char].params[i]; v.isGiven {
			if v.isCharacter != want.character {
				fail(api.ErrType)
			}
			if !v.isCharacter && (v.n < want.least || v.n > want.most) {
				fail(api.ErrRange)
			}
		}
		out = append(out, v)
	}
	return out
}

func (r *run) value(p param) value {
	switch p.kind {
	case isNumber, isCharacter:
		return value{true, p.kind == isCharacter, p.n}
	case isRest:
		return value{true, false, r.args.left()}
	case isArgument:
		return valueOf(r.args.take())
	}
	return value{}
}

// valueOf returns the argument that is a parameter.
func valueOf(x api.Form) value {
	const most = 1000000000
	switch {
	case isNil(x):
		return value{}
	case x.Kind == api.FormChar && len(x.Text) == 1:
		return value{true, true, int(x.Text[0])}
	case x.Kind != api.FormInt || number.Check(x) != api.OK:
		fail(api.ErrType)
	}
	n, err := strconv.Atoi(x.Text)
	if err != nil || n < -most || n > most {
		fail(api.ErrRange)
	}
	return value{true, false, n}
}

// call is a directive with its parameters.
type call struct {
	directive
	values []value
}

// given returns a parameter, and whether there is one.
func (c call) given(i int) (int, bool) {
	if i >= len(c.values) || !c.values[i].isGiven {
		return 0, false
	}
	return c.values[i].n, true
}

// number returns a parameter, or what stands for an empty one.
func (c call) number(i, usual int) int {
	if n, ok := c.given(i); ok {
		return n
	}
	return usual
}

// character returns a parameter that is a character as a text.
func (c call) character(i int, usual byte) string {
	return string([]byte{byte(c.number(i, int(usual)))})
}

// writer has the output.
type writer struct{ text []byte }

func (w *writer) put(s string) {
	if len(w.text)+len(s) > api.MaxOutput {
		fail(api.ErrFull)
	}
	w.text = append(w.text, s...)
}

// pad puts out a text several times; for less than 0 times nothing.
func (w *writer) pad(s string, n int) { w.put(strings.Repeat(s, max(n, 0))) }

// column returns how many characters stand behind the last line feed.
func (w *writer) column() int { return len(w.text) - 1 - bytes.LastIndexByte(w.text, '\n') }

// since takes out what was put out from a place on.
func (w *writer) since(place int) string {
	s := string(w.text[place:])
	w.text = slices.Delete(w.text, place, len(w.text))
	return s
}

// printed returns the text of an argument.
func printed(x api.Form, escape bool) string {
	s, e := printer.Text(x, escape)
	if e != api.OK {
		fail(api.ErrForm)
	}
	return s
}
