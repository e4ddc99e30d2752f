package reader

import (
	"iter"
	"slices"
	"strconv"
	"strings"
	"unicode/utf8"

	"commonform/api"
	"commonform/forms"
)

// Character returns the character with a name.
func Character(name string) (rune, bool) {
	name = strings.Map(lower, name)
	switch name {
	case "null":
		return 0, true
	case "backspace":
		return '\b', true
	case "tab":
		return '\t', true
	case "newline", "linefeed":
		return '\n', true
	case "page":
		return '\f', true
	case "return":
		return '\r', true
	case "space":
		return ' ', true
	case "rubout":
		return 127, true
	}
	return numbered(name)
}

// numbered returns the character whose number a name has.
func numbered(name string) (rune, bool) {
	digits, ok := strings.CutPrefix(name, "u")
	if !ok || len(digits) < 4 || len(digits) > 6 || strings.Trim(digits, "0123456789abcdef") != "" {
		return 0, false
	}
	n, _ := strconv.ParseInt(digits, 16, 32)
	if !utf8.ValidRune(rune(n)) {
		return 0, false
	}
	return rune(n), true
}

// Feature reports whether features fulfil an expression.
func Feature(f api.Form, features []string) (bool, api.Errno) {
	set := map[string]bool{}
	for _, s := range features {
		set[s] = true
	}
	return holds(f, func(name string) bool { return set[name] })
}

func holds(f api.Form, has func(string) bool) (bool, api.Errno) {
	if f.Kind == api.FormSymbol && f.Home == keyword && len(f.Kids) == 0 {
		return has(f.Text), api.OK
	}
	l, ok := items(f)
	if !ok || len(l) == 0 {
		return false, api.ErrForm
	}
	some, all := false, true
	for _, x := range l[1:] {
		is, e := holds(x, has)
		if e != api.OK {
			return false, e
		}
		some, all = some || is, all && is
	}
	switch {
	case forms.Is(l[0], keyword, "AND"):
		return all, api.OK
	case forms.Is(l[0], keyword, "OR"):
		return some, api.OK
	case forms.Is(l[0], keyword, "NOT") && len(l) == 2:
		return !all, api.OK
	}
	return false, api.ErrForm
}

const maxDimension = 2000

// Array returns the array with given contents.
func Array(rank int, contents api.Form) (api.Form, api.Errno) {
	if e := forms.Check(contents); e == api.ErrSize || e == api.ErrForm {
		return api.Form{}, e
	}
	if rank < 0 || rank > forms.MaxRank {
		return api.Form{}, api.ErrArg
	}
	dimensions, ok := dimensionsOf(contents, rank)
	if !ok {
		return api.Form{}, ErrShape
	}
	count := 1
	for _, d := range dimensions {
		if d > maxDimension {
			return api.Form{}, api.ErrSize
		}
		count *= d
	}
	if count > api.MaxForm {
		return api.Form{}, api.ErrSize
	}
	f := api.Form{Kind: api.FormVector, Kids: leaves(contents, rank)}
	if rank != 1 {
		f.Kind, f.Text = api.FormArray, strings.Join(numerals(dimensions), " ")
	}
	return f, api.OK
}

func numerals(l []int) []string {
	var out []string
	for _, n := range l {
		out = append(out, strconv.Itoa(n))
	}
	return out
}

// elements comes to the elements of contents; ok is false for what can have none.
func elements(f api.Form) (l iter.Seq[api.Form], ok bool) {
	characters := func(kind int) iter.Seq[api.Form] {
		return func(yield func(api.Form) bool) {
			for _, c := range f.Text {
				if !yield(api.Form{Kind: kind, Text: string(c)}) {
					return
				}
			}
		}
	}
	switch f.Kind {
	case api.FormString:
		return characters(api.FormChar), true
	case api.FormBits:
		return characters(api.FormInt), true
	case api.FormVector:
		return slices.Values(f.Kids), true
	}
	kids, ok := items(f)
	return slices.Values(kids), ok
}

// dimensionsOf returns the dimensions of contents, and whether they have as many as a rank.
func dimensionsOf(f api.Form, rank int) ([]int, bool) {
	if rank == 0 {
		return nil, true
	}
	l, ok := elements(f)
	if !ok {
		return nil, false
	}
	count, inner := 0, make([]int, rank-1)
	for x := range l {
		d, ok := dimensionsOf(x, rank-1)
		if !ok || count > 0 && !slices.Equal(d, inner) {
			return nil, false
		}
		inner = d
		count++
	}
	return append([]int{count}, inner...), true
}

// leaves returns the elements of contents of a rank in row-major order.
func leaves(f api.Form, rank int) []api.Form {
	if rank == 0 {
		return []api.Form{copied(f)}
	}
	var out []api.Form
	l, _ := elements(f)
	for x := range l {
		out = append(out, leaves(x, rank-1)...)
	}
	return out
}
