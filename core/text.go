package core

import (
	"strconv"
	"strings"

	"commonform/api"
)

// maxText is how many bytes a text that is parsed has at most.
const maxText = 20000

const hexDigits = "0123456789abcdef"

// Show returns the text of a core tree.
func Show(c api.Core) (string, api.Errno) {
	if Check(c) != api.OK {
		return "", api.ErrForm
	}
	var w writer
	w.node(c)
	return w.out.String(), api.OK
}

// writer writes trees and forms.
type writer struct{ out strings.Builder }

func (w *writer) put(s ...string) {
	for _, x := range s {
		w.out.WriteString(x)
	}
}

func (w *writer) number(n int) { w.put(strconv.Itoa(n)) }

// list writes n elements between brackets, with spaces between them.
func (w *writer) list(open string, n int, element func(i int), end string) {
	w.put(open)
	for i := range n {
		if i > 0 {
			w.put(" ")
		}
		element(i)
	}
	w.put(end)
}

func (w *writer) node(c api.Core) {
	s, _ := shapeOf(c.Op)
	w.put("(", s.name)
	if s.has("N") {
		w.put(" ")
		w.number(c.N)
	}
	if s.has("V") {
		w.list(" [", len(c.Vars), func(i int) { w.number(c.Vars[i]) }, "]")
	}
	if s.has("S") {
		w.list(" [", len(c.Syms), func(i int) { w.form(c.Syms[i]) }, "]")
	}
	for _, p := range c.Pars {
		w.put(" ")
		w.param(p)
	}
	if s.has("DF") {
		w.put(" ")
		w.form(c.Data)
	}
	for _, kid := range c.Kids {
		w.put(" ")
		w.node(kid)
	}
	w.put(")")
}

func (w *writer) param(p api.Param) {
	w.list("{", 3, func(i int) { w.number([3]int{p.Kind, p.Var, p.Given}[i]) }, " ")
	if p.Kind == api.ParamKey {
		w.form(p.Key)
	} else {
		w.put("-")
	}
	w.put("}")
}

// form writes the text of a form.
func (w *writer) form(f api.Form) {
	w.number(f.Kind)
	w.put(":")
	w.escaped(f.Home)
	w.put(":")
	w.escaped(f.Text)
	if len(f.Kids) > 0 {
		w.list("(", len(f.Kids), func(i int) { w.form(f.Kids[i]) }, ")")
	}
}

// isPlain reports whether a byte stands for itself.
func isPlain(b byte) bool {
	switch {
	case b >= 'a' && b <= 'z', b >= 'A' && b <= 'Z', b >= '0' && b <= '9':
		return true
	}
	return strings.IndexByte("-*+/<>=%&", b) >= 0
}

func (w *writer) escaped(s string) {
	for _, b := range []byte(s) {
		if isPlain(b) {
			w.out.WriteByte(b)
		} else {
			w.put("~", hexDigits[b>>4:b>>4+1], hexDigits[b&15:b&15+1])
		}
	}
}

// Parse returns the core tree with a text.
func Parse(s string) (out api.Core, e api.Errno) {
	if len(s) > maxText {
		return api.Core{}, api.ErrSize
	}
	defer func() {
		if code, ok := recover().(failure); ok {
			out, e = api.Core{}, api.Errno(code)
		}
	}()
	r := reader{rest: s}
	c := r.node()
	back, e := Show(c)
	need(e == api.OK && back == s) // so what is read here need not be looked at for spaces, zeros and ends
	return c, api.OK
}

// reader reads trees and forms; it panics with a failure where a text is none of a tree.
type reader struct{ rest string }

// skip leaves out a text if the rest begins with it.
func (r *reader) skip(s string) bool {
	rest, ok := strings.CutPrefix(r.rest, s)
	r.rest = rest
	return ok
}

// word takes bytes up to a space, a bracket or a colon.
func (r *reader) word() string {
	n := strings.IndexAny(r.rest, " :()[]{}")
	need(n >= 0)
	out := r.rest[:n]
	r.rest = r.rest[n:]
	return out
}

func (r *reader) number() int {
	n, err := strconv.Atoi(r.word())
	need(err == nil)
	return n
}

// list reads elements up to a bracket.
func (r *reader) list(open string, element func(), end string) {
	need(r.skip(open))
	for !r.skip(end) {
		r.skip(" ")
		element()
	}
}

func (r *reader) node() api.Core {
	need(r.skip("("))
	name := r.word()
	var out api.Core
	var s shape
find:
	for op := range shapes {
		if op != 0 && shapes[op].name == name {
			out.Op, s = op, shapes[op]
			break find
		}
	}
	need(out.Op != 0)
	if s.has("N") {
		r.skip(" ")
		out.N = r.number()
	}
	if s.has("V") {
		r.list(" [", func() { out.Vars = append(out.Vars, r.number()) }, "]")
	}
	if s.has("S") {
		r.list(" [", func() { out.Syms = append(out.Syms, r.form()) }, "]")
	}
	for s.has("P") && r.skip(" {") {
		out.Pars = append(out.Pars, r.param())
	}
	if s.has("DF") {
		r.skip(" ")
		out.Data = r.form()
	}
	r.list("", func() { out.Kids = append(out.Kids, r.node()) }, ")")
	return out
}

// param reads a parameter behind its first bracket.
func (r *reader) param() api.Param {
	var numbers [3]int
	for i := range numbers {
		numbers[i] = r.number()
		r.skip(" ")
	}
	out := api.Param{Kind: numbers[0], Var: numbers[1], Given: numbers[2]}
	if !r.skip("-") {
		out.Key = r.form()
	}
	need(r.skip("}"))
	return out
}

func (r *reader) form() api.Form {
	out := api.Form{Kind: r.number()}
	need(r.skip(":"))
	out.Home = r.text()
	need(r.skip(":"))
	out.Text = r.text()
	if r.skip("(") {
		r.list("", func() { out.Kids = append(out.Kids, r.form()) }, ")")
	}
	return out
}

// text reads a text with escapes.
func (r *reader) text() string {
	var out []byte
	word := r.word()
	for at := 0; at < len(word); at++ {
		b := word[at]
		if b == '~' {
			need(at+2 < len(word))
			n, err := strconv.ParseUint(word[at+1:at+3], 16, 8)
			need(err == nil)
			b = byte(n)
			at += 2
		}
		out = append(out, b)
	}
	return string(out)
}
