package pretty

import (
	"slices"
	"strconv"
	"strings"

	"commonform/api"
	"commonform/forms"
	"commonform/notation"
	"commonform/printer"
)

const commonLisp = "COMMON-LISP"

const (
	maxStyles = 100
	maxArgs   = 10
)

// Styles returns the usual styles.
func Styles() []Style {
	return []Style{
		{"DEFUN", 2}, {"DEFMACRO", 2}, {"LAMBDA", 1}, {"LET", 1}, {"LET*", 1}, {"FLET", 1}, {"LABELS", 1},
		{"MACROLET", 1}, {"SYMBOL-MACROLET", 1}, {"WHEN", 1}, {"UNLESS", 1}, {"DOLIST", 1}, {"DOTIMES", 1},
		{"BLOCK", 1}, {"CATCH", 1}, {"EVAL-WHEN", 1}, {"HANDLER-BIND", 1}, {"PROGN", 0}, {"UNWIND-PROTECT", 1},
		{"MULTIPLE-VALUE-BIND", 2}, {"DESTRUCTURING-BIND", 2}, {"DEFCLASS", 2}, {"CASE", 1}, {"COND", 0}, {"IF", 1},
	}
}

// Layout returns the operations for a form.
func Layout(o printer.Options, styles []Style, f api.Form) ([]Op, api.Errno) {
	if e := printer.Check(o); e != api.OK {
		return nil, e
	}
	if len(styles) > maxStyles {
		return nil, api.ErrSize
	}
	if slices.ContainsFunc(styles, func(s Style) bool { return s.Args < 0 || s.Args > maxArgs }) {
		return nil, api.ErrArg
	}
	if _, e := printer.Print(o, f); e != api.OK {
		return nil, e
	}
	if o.Circle {
		f, _ = forms.Normal(f)
	} else {
		f, _ = forms.Plain(f)
	}
	l := layout{o, styles}.form(f, 0, 0)
	if e := Check(l); e != api.OK {
		return nil, e
	}
	return l, api.OK
}

// Print returns the text of a form in lines of a width.
func Print(o printer.Options, f api.Form, width, miser int) (string, api.Errno) {
	l, e := Layout(o, Styles(), f)
	if e != api.OK {
		return "", e
	}
	return Render(l, width, miser)
}

// layout makes operations for forms that can be printed, and whose labels are as they are to be written.
type layout struct {
	printer.Options
	styles []Style
}

func text(s string) Op { return Op{Kind: Text, Text: s} }

// form returns the operations for a form in a level, and in a depth of backquotes.
func (l layout) form(f api.Form, level, depth int) []Op {
	switch f.Kind {
	case api.FormLabel:
		return append([]Op{text("#" + f.Text + "=")}, l.form(f.Kids[0], level, depth)...)
	case api.FormRef:
		return []Op{text("#" + f.Text + "#")}
	case api.FormCons:
		if prefix, change := notation.Abbreviation(f, depth); l.Abbrev && prefix != "" {
			return l.abbreviated(prefix, f.Kids[1], level, depth+change)
		}
		return l.list("", "(", level, l.cons(f, level+1, depth))
	case api.FormVector:
		if l.Array {
			return l.list("", "#(", level, l.elements(f.Kids, level+1, depth))
		}
		f.Kids = nil // which may refer to labels around them, and are not written
	case api.FormArray:
		if l.Array {
			return l.array(f, level, depth)
		}
		f.Text, f.Kids = "0 0", nil
	}
	s, _ := printer.Print(l.Options, f)
	return []Op{text(s)}
}

func (l layout) abbreviated(prefix string, f api.Form, level, depth int) []Op {
	inner := l.form(f, level, depth)
	if prefix == "," && strings.HasPrefix(inner[0].Text, "@") {
		prefix = ", " // as the printer writes it
	}
	return append([]Op{text(prefix)}, inner...)
}

// content is what stands between the brackets of a list: elements, and perhaps a tail.
type content struct {
	count   int
	element func(i int) []Op
	tail    func() []Op // nil for NIL
	between separator
}

// separator returns what stands between two elements, behind the one with an index, apart from the space.
type separator func(i int) []Op

func newline(kind int) Op { return Op{Kind: Newline, N: kind} }

func fill(int) []Op { return []Op{newline(Fill)} }

// separator returns how the elements of a list are separated that begins with an element.
func (l layout) separator(first api.Form) separator {
	if first.Kind != api.FormSymbol {
		return fill
	}
	isStyle := func(s Style) bool { return first.Home == commonLisp && s.Name == first.Text }
	if i := slices.IndexFunc(l.styles, isStyle); i >= 0 {
		return body(l.styles[i].Args)
	}
	return func(i int) []Op {
		if i == 0 {
			return []Op{{Kind: Indent, Flag: true}}
		}
		return []Op{newline(Linear)}
	}
}

// body returns how the elements of a call are separated whose body follows some arguments.
func body(args int) separator {
	return func(i int) []Op {
		var out []Op
		if i == 0 {
			out = append(out, Op{Kind: Indent, N: 3})
		}
		switch {
		case i >= args:
			return append(out, Op{Kind: Indent, N: 1}, newline(Linear))
		case i > 0:
			return append(out, newline(Fill))
		}
		return out
	}
}

// list returns the operations of a list as far as the limits allow it; sigil stands ahead of it in any case.
func (l layout) list(sigil, open string, level int, c content) []Op {
	if level == l.Level {
		return []Op{text(sigil + "#")}
	}
	out := []Op{{Kind: Open, Text: sigil + open}}
	for i := range c.count {
		out = append(out, c.gap(i)...)
		if i == l.Length {
			out = append(out, text("..."))
			c.tail = nil
			break
		}
		out = append(out, c.element(i)...)
	}
	if c.tail != nil {
		out = append(out, c.gap(c.count)...)
		out = append(out, text(". "))
		out = append(out, c.tail()...)
	}
	return append(out, Op{Kind: Close, Text: ")"})
}

// gap returns what stands ahead of an element.
func (c content) gap(i int) []Op {
	if i == 0 {
		return nil
	}
	return append([]Op{text(" ")}, c.between(i-1)...)
}

func (l layout) cons(f api.Form, level, depth int) content {
	last := len(f.Kids) - 1
	c := l.elements(f.Kids[:last], level, depth)
	c.between = l.separator(f.Kids[0])
	if tail := f.Kids[last]; !forms.IsNil(tail) {
		c.tail = func() []Op { return l.form(tail, level, depth) }
	}
	return c
}

func (l layout) elements(kids []api.Form, level, depth int) content {
	element := func(i int) []Op { return l.form(kids[i], level, depth) }
	return content{count: len(kids), element: element, between: fill}
}

func (l layout) array(f api.Form, level, depth int) []Op {
	dimensions := notation.Dimensions(f.Text)
	sigil := "#" + strconv.Itoa(len(dimensions)) + "A"
	if len(dimensions) == 0 {
		return append([]Op{text(sigil)}, l.form(f.Kids[0], level, depth)...)
	}
	return l.list(sigil, "(", level, l.rows(f.Kids, dimensions, level+1, depth))
}

// rows returns the contents of an array for each index of its first dimension.
func (l layout) rows(kids []api.Form, dimensions []int, level, depth int) content {
	if len(dimensions) == 1 {
		return l.elements(kids, level, depth)
	}
	row := func(i int) []Op {
		size := len(kids) / dimensions[0]
		inner := l.rows(kids[i*size:(i+1)*size], dimensions[1:], level+1, depth)
		return l.list("", "(", level, inner)
	}
	return content{count: dimensions[0], element: row, between: fill}
}
