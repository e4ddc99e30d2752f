package types

import (
	"iter"
	"strconv"
	"strings"

	"commonform/api"
	"commonform/forms"
)

// class has the objects that are of the same ones of some types: answers has a 1 for each type of which they are, and a 0 for each other one. It keeps one of them, or the classes of the sides of a cons.
type class struct {
	answers  string
	sample   api.Form
	car, cdr *class
}

// object returns an object of a class.
func (c *class) object() api.Form {
	if c.car == nil {
		return c.sample
	}
	return forms.Dotted([]api.Form{c.car.object()}, c.cdr.object())
}

// sorter parts all objects into classes.
type sorter struct{ samples []api.Form }

func (m *marks) sorter() sorter { return sorter{m.samples()} }

// witness returns whether a type has no objects, and otherwise one.
func (m *marks) witness(t spec) (none bool, x api.Form) {
	for _, c := range m.sorter().classes([]spec{t}) {
		if c.answers == always {
			return false, c.object()
		}
	}
	return true, api.Form{}
}

// classes returns all classes by some types; by none there is just one.
func (s sorter) classes(types []spec) []class {
	if len(types) == 0 {
		return []class{{sample: s.samples[0]}}
	}
	var out []class
	known := map[string]bool{}
	add := func(c class) {
		if !known[c.answers] {
			known[c.answers] = true
			out = append(out, c)
		}
	}
	for _, x := range s.samples {
		add(class{answers: answers(types, func(t *spec) bool { return t.how == byTest && t.test(x) }), sample: x})
	}
	for c := range s.conses(types) {
		add(c)
	}
	return out
}

// answers asks which types hold.
func answers(types []spec, answer func(t *spec) bool) string {
	out := make([]byte, len(types))
	for i := range types {
		out[i] = never[0]
		if types[i].holds(answer) {
			out[i] = always[0]
		}
	}
	return string(out)
}

// side is one side of conses: the types that are asked of it, and their places by their numbers.
type side struct {
	which  int
	types  []spec
	places map[int]int
}

func (s *side) add(t *spec) {
	n := t.numbers[s.which]
	if _, ok := s.places[n]; !ok {
		s.places[n] = len(s.types)
		s.types = append(s.types, t.parts[s.which])
	}
}

// is reports whether what is in a class has the side that a type of conses wants.
func (s *side) is(c class, t *spec) bool { return c.answers[s.places[t.numbers[s.which]]] == always[0] }

// sides collects what types ask of both sides of conses.
func sides(types []spec) (car, cdr side) {
	car, cdr = side{which: 0, places: map[int]int{}}, side{which: 1, places: map[int]int{}}
	var collect func(l []spec)
	collect = func(l []spec) {
		for i := range l {
			if l[i].how == ofConses {
				car.add(&l[i])
				cdr.add(&l[i])
			} else {
				collect(l[i].parts)
			}
		}
	}
	collect(types)
	return car, cdr
}

// conses walks classes of conses by some types: pairs of classes of both sides.
func (s sorter) conses(types []spec) iter.Seq[class] {
	car, cdr := sides(types)
	left := s.different(types, car, cdr)
	right := s.different(types, cdr, car)
	return func(yield func(class) bool) {
		for i := range left {
			for k := range right {
				c := class{car: &left[i], cdr: &right[k]}
				c.answers = answers(types, func(t *spec) bool {
					return t.how == ofConses && car.is(left[i], t) && cdr.is(right[k], t)
				})
				if !yield(c) {
					return
				}
			}
		}
	}
}

// different returns classes of one side of conses without those that leave the same to be asked of the other side.
func (s sorter) different(types []spec, one, other side) []class {
	var out []class
	known := map[string]bool{}
	for _, c := range s.classes(one.types) {
		var rest []string
		for i := range types {
			rest = append(rest, types[i].rest(func(t *spec) string {
				switch {
				case t.how == byTest || !one.is(c, t):
					return never
				case t.parts[other.which].isAll():
					return always
				}
				return "t" + strconv.Itoa(t.numbers[other.which])
			}))
		}
		if key := strings.Join(rest, ";"); !known[key] {
			known[key] = true
			out = append(out, c)
		}
	}
	return out
}
