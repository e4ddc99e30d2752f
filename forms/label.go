package forms

import (
	"strconv"

	"commonform/api"
)

// label is what is known of a FormLabel.
type label struct {
	kid    api.Form
	uses   int
	number string // in the normal form
}

// labelsOf returns the labels of a right form by their texts.
func labelsOf(f api.Form) map[string]label {
	out := map[string]label{}
	for x := range walk(f) {
		l := out[x.Text]
		switch x.Kind {
		case api.FormLabel:
			out[x.Text] = label{kid: x.Kids[0]}
		case api.FormRef:
			l.uses++
			out[x.Text] = l
		}
	}
	return out
}

// stays reports whether a normal form needs the label.
func (l label) stays() bool { return l.uses > 0 && hasIdentity(l.kid.Kind) }

// Normal returns a form with as few labels as possible, in order.
func Normal(f api.Form) (api.Form, api.Errno) {
	if e := Check(f); e != api.OK {
		return api.Form{}, e
	}
	n := normal{labels: labelsOf(f)}
	out := n.form(f)
	if tooLarge(out) {
		return api.Form{}, api.ErrSize
	}
	return out, api.OK
}

// normal makes a normal form; next is the number of the next label that stays.
type normal struct {
	labels map[string]label
	next   int
}

func (n *normal) form(f api.Form) api.Form {
	switch l := n.labels[f.Text]; {
	case f.Kind == api.FormRef && l.stays():
		return api.Form{Kind: api.FormRef, Text: l.number}
	case f.Kind == api.FormRef:
		return clone(l.kid)
	case f.Kind == api.FormLabel && l.stays():
		l.number = strconv.Itoa(n.next)
		n.labels[f.Text] = l
		n.next++
		return api.Form{Kind: api.FormLabel, Text: l.number, Kids: []api.Form{n.form(l.kid)}}
	case f.Kind == api.FormLabel:
		return n.form(l.kid)
	}
	var kids []api.Form
	for _, kid := range f.Kids {
		kids = append(kids, n.form(kid))
	}
	if last := len(kids) - 1; f.Kind == api.FormCons {
		return cons(kids[:last:last], kids[last])
	}
	return api.Form{Kind: f.Kind, Text: f.Text, Home: f.Home, Kids: kids}
}

// Same reports whether two forms are the same object but for the numbers of labels.
func Same(a, b api.Form) (bool, api.Errno) {
	x, e := Normal(a)
	if e != api.OK {
		return false, e
	}
	y, e := Normal(b)
	if e != api.OK {
		return false, e
	}
	return Equal(x, y), api.OK
}

// Plain returns a form without labels: each reference is replaced.
func Plain(f api.Form) (api.Form, api.Errno) {
	if e := Check(f); e != api.OK {
		return api.Form{}, e
	}
	if isCircle(f, map[string]bool{}) {
		return api.Form{}, ErrCircle
	}
	p := plain{labels: labelsOf(f), room: api.MaxForm}
	out := p.form(f)
	if tooLarge(out) {
		return api.Form{}, api.ErrSize
	}
	return out, api.OK
}

// isCircle reports whether a reference stands within its label; open has the labels around the form.
func isCircle(f api.Form, open map[string]bool) bool {
	if f.Kind == api.FormRef {
		return open[f.Text]
	}
	if f.Kind == api.FormLabel {
		open[f.Text] = true
		defer delete(open, f.Text)
	}
	for _, kid := range f.Kids {
		if isCircle(kid, open) {
			return true
		}
	}
	return false
}

// plain makes a form without labels. It leaves out all kids as soon as there is no room for a further node, since references of references may stand for very large trees.
type plain struct {
	labels map[string]label
	room   int
}

// target returns what a label or a reference stands for, and other forms as they are.
func (p *plain) target(f api.Form) api.Form {
	if f.Kind == api.FormRef || f.Kind == api.FormLabel {
		return p.labels[f.Text].kid
	}
	return f
}

func (p *plain) form(f api.Form) api.Form {
	f = p.target(f)
	p.room--
	out := api.Form{Kind: f.Kind, Text: f.Text, Home: f.Home}
	rest := f.Kids
whole:
	for p.room >= 0 {
		for i, kid := range rest {
			if t := p.target(kid); f.Kind == api.FormCons && t.Kind == api.FormCons && i == len(rest)-1 {
				rest = t.Kids // a tail that is a list goes on with the elements
				continue whole
			}
			out.Kids = append(out.Kids, p.form(kid))
		}
		break
	}
	return out
}
