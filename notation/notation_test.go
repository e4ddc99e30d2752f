package notation

import (
	"slices"
	"testing"

	"commonform/api"
	"commonform/forms"
)

func TestP8_1Abbreviation(t *testing.T) {
	x := forms.Symbol("P", "X")
	lisp := func(name string) api.Form { return forms.Symbol("COMMON-LISP", name) }
	read := func(name string) api.Form { return forms.Symbol("READER", name) }
	for _, y := range []struct {
		f      api.Form
		depth  int
		prefix string
		change int
	}{
		{forms.List([]api.Form{lisp("QUOTE"), x}), 0, "'", 0},
		{forms.List([]api.Form{lisp("FUNCTION"), x}), 2, "#'", 0},
		{forms.List([]api.Form{read("BACKQUOTE"), x}), 0, "`", 1},
		{forms.List([]api.Form{read("COMMA"), x}), 1, ",", -1},
		{forms.List([]api.Form{read("SPLICE"), x}), 1, ",@", -1},
		{forms.List([]api.Form{read("COMMA"), x}), 0, "", 0},
		{forms.List([]api.Form{read("SPLICE"), x}), 0, "", 0},
		{forms.List([]api.Form{read("QUOTE"), x}), 1, "", 0},
		{forms.List([]api.Form{lisp("COMMA"), x}), 1, "", 0},
		{forms.List([]api.Form{lisp("QUOTE")}), 1, "", 0},
		{forms.List([]api.Form{lisp("QUOTE"), x, x}), 1, "", 0},
		{forms.Dotted([]api.Form{lisp("QUOTE"), x}, x), 1, "", 0},
		{api.Form{Kind: api.FormVector, Kids: []api.Form{lisp("QUOTE"), x, forms.Nil()}}, 1, "", 0},
		{x, 1, "", 0},
	} {
		if prefix, change := Abbreviation(y.f, y.depth); prefix != y.prefix || change != y.change {
			t.Errorf("Abbreviation(%v, %d) = %q, %d, not %q, %d", y.f, y.depth, prefix, change, y.prefix, y.change)
		}
	}
}

func TestP8_1Dimensions(t *testing.T) {
	for text, want := range map[string][]int{"": nil, "2 0": {2, 0}, "10 2000 3": {10, 2000, 3}} {
		if got := Dimensions(text); !slices.Equal(got, want) {
			t.Errorf("Dimensions(%q) = %v", text, got)
		}
	}
}

func TestP13_1IsRight(t *testing.T) {
	x := api.Form{Kind: api.FormInt, Text: "1"}
	for _, y := range []struct {
		f    api.Form
		want bool
	}{{x, true}, {forms.List([]api.Form{x, x}), true}, {api.Form{}, false}, {api.Form{Kind: api.FormInt, Text: "01"}, false}, {api.Form{Kind: api.FormRef, Text: "0"}, false}, {api.Form{Kind: api.FormVector, Kids: make([]api.Form, 2000)}, false}} {
		if got := IsRight(y.f); got != y.want {
			t.Errorf("IsRight(%.50v) = %v", y.f, got)
		}
	}
}
