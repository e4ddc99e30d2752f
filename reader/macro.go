package reader

import (
	"strings"

	"commonform/api"
	"commonform/forms"
	"commonform/token"
)

// macros returns what reads behind each macro character, but for those of comments.
func macros() map[rune]macro {
	return map[rune]macro{
		'"':  (*reading).text,
		'\'': (*reading).quote,
		'(':  (*reading).list,
		')':  (*reading).unmatched,
		'`':  (*reading).backquote,
		',':  (*reading).comma,
		'#':  (*reading).dispatch,
	}
}

func (r *reading) text(int) (api.Form, bool) {
	var out strings.Builder
	for {
		c := r.take()
		if c == '"' {
			return api.Form{Kind: api.FormString, Text: out.String()}, true
		}
		if r.kind(c) == token.Single {
			c = r.take()
		}
		out.WriteRune(c)
	}
}

// marked reads a form that stands behind a character which means a symbol.
func (r *reading) marked(pack, name string) (api.Form, bool) {
	x := r.need()
	return dotted([]api.Form{forms.Symbol(pack, name), x}, forms.Nil()), true
}

func (r *reading) quote(int) (api.Form, bool) { return r.marked(commonLisp, "QUOTE") }

func (r *reading) unmatched(start int) (api.Form, bool) {
	r.fail(ErrClose, start)
	return api.Form{}, false
}

func (r *reading) backquote(int) (api.Form, bool) {
	r.level++
	defer func() { r.level-- }()
	return r.marked(home, "BACKQUOTE")
}

func (r *reading) comma(start int) (api.Form, bool) {
	if r.level == 0 {
		r.fail(ErrComma, start)
	}
	name := "COMMA"
	if r.follows("@") {
		r.at++
		name = "SPLICE"
	}
	r.level--
	defer func() { r.level++ }()
	return r.marked(home, name)
}

// dotted is what layer 1 makes of elements and a tail, out of their own memory.
func dotted(l []api.Form, tail api.Form) api.Form {
	switch {
	case len(l) == 0:
		return tail
	case tail.Kind == api.FormCons:
		return api.Form{Kind: api.FormCons, Kids: append(l, tail.Kids...)}
	}
	return api.Form{Kind: api.FormCons, Kids: append(l, tail)}
}

// elements reads forms up to the end of their list, or a dot.
func (r *reading) elements() []api.Form {
	var out []api.Form
	for {
		f, _, ok := r.form(true)
		if !ok {
			break
		}
		out = append(out, f)
	}
	if r.isEnd() {
		r.fail(api.ErrEnd, r.at)
	}
	return out
}

func (r *reading) list(int) (api.Form, bool) {
	l := r.elements()
	tail := forms.Nil()
	if !r.isClose() {
		tail = r.tail(len(l))
	}
	r.at++
	return dotted(l, tail), true
}

// tail reads a dot and the tail behind it, which follow some elements.
func (r *reading) tail(elements int) api.Form {
	dot := r.at
	if elements == 0 {
		r.fail(ErrDot, dot)
	}
	r.token(r.o.Table, dot)
	f := r.need()
	r.skip()
	switch {
	case r.isEnd():
		r.fail(api.ErrEnd, r.at)
	case !r.isClose():
		r.fail(ErrDot, dot)
	}
	return f
}
