package reader

import (
	"maps"
	"slices"
	"strconv"
	"strings"

	"commonform/api"
	"commonform/forms"
	"commonform/number"
	"commonform/token"
)

// maxDigits is how many digits the number ahead of a dispatch character has at most.
const maxDigits = 3

// Whether there is a number ahead of a dispatch character.
const (
	without = iota
	perhaps
	always
)

// hash is where a dispatch begins, its number, and its character.
type hash struct {
	start, n  int
	hasNumber bool
	char      rune
}

// dispatch reads what follows a dispatch character.
type dispatch struct {
	number int
	read   func(r *reading, h hash) (api.Form, bool)
}

// dispatches returns what reads behind each dispatch character, but for comments.
func dispatches() map[rune]dispatch {
	return map[rune]dispatch{
		'\'': {without, (*reading).function},
		'\\': {without, (*reading).character},
		'(':  {perhaps, (*reading).vector},
		'*':  {perhaps, (*reading).bits},
		':':  {without, (*reading).homeless},
		'b':  {without, (*reading).rational},
		'o':  {without, (*reading).rational},
		'x':  {without, (*reading).rational},
		'r':  {always, (*reading).rational},
		'c':  {without, (*reading).complex},
		'a':  {always, (*reading).array},
		'+':  {without, (*reading).conditional},
		'-':  {without, (*reading).conditional},
		'=':  {always, (*reading).label},
		'#':  {always, (*reading).reference},
	}
}

// lower changes a great letter of ASCII to a small one.
func lower(c rune) rune {
	if c >= 'A' && c <= 'Z' {
		return c + 'a' - 'A'
	}
	return c
}

func (r *reading) dispatch(start int) (api.Form, bool) {
	rest := r.s[r.at:]
	digits := len(rest) - len(strings.TrimLeft(rest, "0123456789"))
	if digits > maxDigits {
		r.fail(ErrHash, start)
	}
	n, _ := strconv.Atoi(rest[:digits])
	r.at += digits
	h := hash{start: start, n: n, hasNumber: digits > 0, char: lower(r.take())}
	d, ok := r.dispatches[h.char]
	if !ok || h.hasNumber && d.number == without || !h.hasNumber && d.number == always {
		r.fail(ErrHash, start)
	}
	return d.read(r, h)
}

func (r *reading) function(hash) (api.Form, bool) { return r.marked(commonLisp, "FUNCTION") }

func (r *reading) character(h hash) (api.Form, bool) {
	first := r.take()
	rest := r.name(h)
	if rest == "" {
		return api.Form{Kind: api.FormChar, Text: string(first)}, true
	}
	c, ok := Character(string(first) + rest)
	if !ok {
		r.fail(ErrChar, h.start)
	}
	return api.Form{Kind: api.FormChar, Text: string(c)}, true
}

// name reads the characters of a token, which may begin with Nonterminating ones here.
func (r *reading) name(h hash) string {
	var out strings.Builder
token:
	for !r.isEnd() {
		c, size := r.peek()
		switch r.kind(c) {
		case token.Nonterminating:
			out.WriteRune(c)
			r.at += size
			continue
		case token.Constituent, token.Single, token.Multiple:
			x := r.token(token.Table{Entries: r.o.Table.Entries, Case: token.Preserve}, h.start)
			out.WriteString(token.Text(x))
		case token.Invalid:
			if out.Len() > 0 {
				r.fail(token.ErrInvalid, h.start)
			}
		}
		break token
	}
	return out.String()
}

// isShape reports whether n elements are fitting for the number of a vector.
func (h hash) isShape(n int) bool {
	return !h.hasNumber || n <= h.n && (n > 0 || h.n == 0)
}

func (r *reading) vector(h hash) (api.Form, bool) {
	l := r.elements()
	if !r.isClose() {
		r.fail(ErrDot, r.at)
	}
	r.at++
	if !h.isShape(len(l)) {
		r.fail(ErrShape, h.start)
	}
	f := api.Form{Kind: api.FormVector, Kids: l}
	if len(l) < h.n && hasLabel(l[len(l)-1]) {
		r.fail(ErrShape, h.start)
	}
	repeat(&f, h.n)
	return f, true
}

// repeat repeats the last element of a vector until there are n. It ends as soon as the vector is larger than any form, since vectors in vectors may become very large.
func repeat(f *api.Form, n int) {
	if len(f.Kids) >= n {
		return
	}
	last := f.Kids[len(f.Kids)-1]
	each := nodes(last, api.MaxForm)
	for size := nodes(*f, api.MaxForm); size <= api.MaxForm && len(f.Kids) < n; size += each {
		f.Kids = append(f.Kids, copied(last))
	}
}

func (r *reading) bits(h hash) (api.Form, bool) {
	x := r.follow(h)
	s := token.Text(x)
	if x.Escapes || strings.Trim(s, "01") != "" {
		r.fail(api.ErrForm, h.start)
	}
	if !h.isShape(len(s)) {
		r.fail(ErrShape, h.start)
	}
	if len(s) < h.n {
		s += strings.Repeat(s[len(s)-1:], h.n-len(s))
	}
	return api.Form{Kind: api.FormBits, Text: s}, true
}

// follow reads the token that follows; one without characters if there is none.
func (r *reading) follow(h hash) token.Token {
	if !r.isToken() {
		return token.Token{}
	}
	return r.token(r.o.Table, h.start)
}

func (r *reading) homeless(h hash) (api.Form, bool) {
	x := r.follow(h)
	for i, c := range x.Chars {
		if c == ':' && !x.Escaped[i] {
			r.fail(token.ErrMarker, h.start)
		}
	}
	return forms.Symbol("", token.Text(x)), true
}

// base returns the base that a dispatch character tells.
func (h hash) base() int {
	switch h.char {
	case 'b':
		return 2
	case 'o':
		return 8
	case 'x':
		return 16
	}
	return h.n
}

func (r *reading) rational(h hash) (api.Form, bool) {
	base := h.base()
	if base < 2 || base > 36 {
		r.fail(ErrHash, h.start)
	}
	x := r.follow(h)
	if x.Escapes {
		r.fail(api.ErrForm, h.start)
	}
	f, e := number.Read(token.Text(x), base, r.o.Double)
	r.require(e, h.start)
	if f.Kind != api.FormInt && f.Kind != api.FormRatio {
		r.fail(api.ErrForm, h.start)
	}
	return f, true
}

func (r *reading) complex(h hash) (api.Form, bool) {
	l, ok := items(r.need())
	isNoPart := func(f api.Form) bool { return !forms.Number(f) || f.Kind == api.FormComplex }
	if !ok || len(l) != 2 || slices.ContainsFunc(l, isNoPart) {
		r.fail(api.ErrForm, h.start)
	}
	f, e := number.Complex(l[0], l[1])
	r.require(e, h.start)
	return f, true
}

func (r *reading) array(h hash) (api.Form, bool) {
	f, e := Array(h.n, r.need())
	r.require(e, h.start)
	return f, true
}

// conditional reads an expression of features, and a form that is left out if this does not hold.
func (r *reading) conditional(h hash) (api.Form, bool) {
	labels, references := maps.Clone(r.labels), len(r.references)
	forget := func() {
		r.labels = maps.Clone(labels)
		r.references = r.references[:references]
	}
	pack := r.o.Package
	r.o.Package = keyword
	expression := r.need()
	r.o.Package = pack
	forget()
	holds, e := Feature(expression, r.o.Features)
	r.require(e, h.start)
	f := r.need()
	if holds == (h.char == '+') {
		return f, true
	}
	forget()
	return api.Form{}, false
}

func (r *reading) label(h hash) (api.Form, bool) {
	name := strconv.Itoa(h.n)
	if r.labels[name] {
		r.fail(api.ErrTwice, h.start)
	}
	r.labels[name] = true
	f := r.need()
	if f.Kind == api.FormRef || f.Kind == api.FormLabel {
		r.fail(forms.ErrLabel, h.start)
	}
	return api.Form{Kind: api.FormLabel, Text: name, Kids: []api.Form{f}}, true
}

func (r *reading) reference(h hash) (api.Form, bool) {
	name := strconv.Itoa(h.n)
	if !r.labels[name] {
		r.fail(forms.ErrLabel, h.start)
	}
	return api.Form{Kind: api.FormRef, Text: name}, true
}
