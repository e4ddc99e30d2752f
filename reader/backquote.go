package reader

import (
	"commonform/api"
	"commonform/forms"
)

// Backquote returns the form that makes what stands behind a backquote.
func Backquote(f api.Form) (out api.Form, e api.Errno) {
	if e := forms.Check(f); e != api.OK {
		return api.Form{}, e
	}
	if hasLabel(f) {
		return api.Form{}, forms.ErrLabel
	}
	defer func() {
		if f, ok := recover().(failure); ok {
			out, e = api.Form{}, f.code
		}
	}()
	out = quasi(f, 1)
	if nodes, depth := forms.Size(out); nodes > api.MaxForm || depth > api.MaxDepth {
		return api.Form{}, api.ErrSize
	}
	return out, api.OK
}

func isMark(f api.Form, name string) bool { return forms.Is(f, home, name) }

// isOpening reports whether a form takes a depth away.
func isOpening(f api.Form) bool { return isMark(f, "COMMA") || isMark(f, "SPLICE") }

// marked returns the form behind a mark, if a list is a mark and a form.
func marked(f api.Form, name string) (api.Form, bool) {
	l, ok := items(f)
	if !ok || len(l) != 2 || !isMark(l[0], name) {
		return api.Form{}, false
	}
	return l[1], true
}

func call(name string, l ...api.Form) api.Form { return forms.Call(name, l) }

// quasi returns the form that makes f in a depth of backquotes.
func quasi(f api.Form, depth int) api.Form {
	switch {
	case f.Kind == api.FormVector:
		l := quasi(forms.List(f.Kids), depth)
		return call("APPLY", call("FUNCTION", forms.Symbol(commonLisp, "VECTOR")), l)
	case f.Kind != api.FormCons:
		return call("QUOTE", f)
	case depth == 1 && isOpening(f.Kids[0]):
		return comma(f)
	}
	return appended(f, depth)
}

// comma returns the form behind a comma in the depth 1.
func comma(f api.Form) api.Form {
	if x, ok := marked(f, "COMMA"); ok {
		return copied(x)
	}
	if _, ok := marked(f, "SPLICE"); ok {
		panic(failure{code: ErrComma})
	}
	panic(failure{code: api.ErrForm})
}

// appended returns the form that makes a list in a depth.
func appended(f api.Form, depth int) api.Form {
	last := len(f.Kids) - 1
	l, tail := f.Kids[:last], f.Kids[last]
	isProper := forms.IsNil(tail)
	switch {
	case isProper && last == 2 && isMark(l[0], "BACKQUOTE"):
		depth++
	case isProper && last == 2 && isOpening(l[0]):
		depth--
	case isProper && last > 2 && isOpening(l[last-2]):
		tail = forms.List(l[last-2:])
		l = l[:last-2]
	}
	var parts []api.Form
	for _, x := range l {
		if spliced, ok := marked(x, "SPLICE"); ok && depth == 1 {
			parts = append(parts, spliced)
			continue
		}
		parts = append(parts, call("LIST", quasi(x, depth)))
	}
	return call("APPEND", append(parts, quasi(tail, depth))...)
}
