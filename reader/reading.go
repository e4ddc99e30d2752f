package reader

import (
	"strings"
	"unicode/utf8"

	"commonform/api"
	"commonform/forms"
	"commonform/number"
	"commonform/token"
)

const (
	commonLisp = "COMMON-LISP"
	keyword    = "KEYWORD"
	home       = "READER"
)

// failure is an error and its place; reading panics with it.
type failure struct {
	code api.Errno
	at   int
}

// macro reads what follows a macro character, which stands at a place. It returns no form if this was left out.
type macro func(r *reading, start int) (api.Form, bool)

// reading goes through a text.
type reading struct {
	o            Options
	s            string
	at           int
	depth, level int
	labels       map[string]bool
	references   []Reference
	macros       map[rune]macro
	dispatches   map[rune]dispatch
}

func (r *reading) fail(e api.Errno, at int) {
	if e == api.ErrEnd {
		at = len(r.s)
	}
	panic(failure{e, at})
}

// require fails if there is an error.
func (r *reading) require(e api.Errno, at int) {
	if e != api.OK {
		r.fail(e, at)
	}
}

func (r *reading) isEnd() bool { return r.at == len(r.s) }

// peek returns the next character, and how many bytes it has.
func (r *reading) peek() (rune, int) { return utf8.DecodeRuneInString(r.s[r.at:]) }

// take returns the next character, and goes on behind it.
func (r *reading) take() rune {
	if r.isEnd() {
		r.fail(api.ErrEnd, r.at)
	}
	c, size := r.peek()
	r.at += size
	return c
}

func (r *reading) kind(c rune) int {
	kind, _ := token.Kind(r.o.Table, c)
	return kind
}

func (r *reading) isMacro(c rune) bool { return isMacroKind(r.kind(c)) }

func isMacroKind(kind int) bool { return kind == token.Terminating || kind == token.Nonterminating }

// isToken reports whether a token begins with the next character.
func (r *reading) isToken() bool {
	if r.isEnd() {
		return false
	}
	c, _ := r.peek()
	switch r.kind(c) {
	case token.Constituent, token.Single, token.Multiple:
		return true
	}
	return false
}

// skip goes on behind White characters and comments.
func (r *reading) skip() {
blanks:
	for !r.isEnd() {
		c, size := r.peek()
		switch {
		case r.kind(c) == token.White:
			r.at += size
		case c == ';' && r.isMacro(c):
			r.skipLine()
		case c == '#' && r.isMacro(c) && r.follows("#|"):
			r.skipNested()
		default:
			break blanks
		}
	}
}

func (r *reading) follows(s string) bool { return strings.HasPrefix(r.s[r.at:], s) }

// skipLine goes on to the line feed, which the readtable may take for anything.
func (r *reading) skipLine() {
	n := strings.IndexByte(r.s[r.at:], '\n')
	if n < 0 {
		n = len(r.s) - r.at
	}
	r.at += n
}

func (r *reading) skipNested() {
	open := 0
	for {
		switch {
		case r.follows("#|"):
			open++
			r.at += 2
		case r.follows("|#"):
			open--
			r.at += 2
		default:
			r.take()
		}
		if open == 0 {
			return
		}
	}
}

// form reads a form, and returns the place at which it begins. There is none if the text, or the list in which it would stand, ends ahead of it.
func (r *reading) form(inList bool) (f api.Form, from int, ok bool) {
	for {
		r.skip()
		from = r.at
		if r.isEnd() || inList && (r.isClose() || r.isDot()) {
			return api.Form{}, from, false
		}
		r.depth++
		if r.depth > api.MaxDepth {
			r.fail(api.ErrSize, from)
		}
		f, ok = r.begun()
		r.depth--
		if ok {
			return f, from, true
		}
	}
}

// need reads a form that has to be there.
func (r *reading) need() api.Form {
	f, _, ok := r.form(false)
	if !ok {
		r.fail(api.ErrEnd, r.at)
	}
	return f
}

// begun reads a form that begins with the next character.
func (r *reading) begun() (api.Form, bool) {
	start := r.at
	c, size := r.peek()
	kind := r.kind(c)
	if !isMacroKind(kind) {
		return r.atom(), true // also fails for a character that must not be there
	}
	read, ok := r.macros[c]
	if !ok {
		r.fail(ErrMacro, start)
	}
	r.at += size
	return read(r, start)
}

// token reads a token; at is the place of its errors.
func (r *reading) token(t token.Table, at int) token.Token {
	x, end, e := token.Next(t, r.s, r.at)
	r.require(e, at)
	r.at = end
	return x
}

// atom reads a number or a symbol.
func (r *reading) atom() api.Form {
	start := r.at
	x := r.token(r.o.Table, start)
	if !x.Escapes {
		f, e := number.Read(token.Text(x), r.o.Base, r.o.Double)
		if e == api.OK {
			return f
		}
		if e != api.ErrForm {
			r.fail(e, start)
		}
	}
	n, e := token.Split(x)
	r.require(e, start)
	return r.symbol(n, start)
}

func (r *reading) symbol(n token.Name, start int) api.Form {
	pack := n.Package
	switch n.Kind {
	case token.Symbol:
		pack = r.o.Package
	case token.Keyword:
		pack = keyword
	}
	r.references = append(r.references, Reference{pack, n.Name, n.Kind == token.External, start})
	return forms.Symbol(pack, n.Name)
}

// isClose reports whether the next character ends a list.
func (r *reading) isClose() bool { return r.follows(")") && r.isMacro(')') }

// isDot reports whether the next token is a dot alone.
func (r *reading) isDot() bool {
	if !r.isToken() {
		return false
	}
	x, _, e := token.Next(r.o.Table, r.s, r.at)
	return e == api.OK && token.Dots(x) == 1
}
