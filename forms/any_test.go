package forms

import (
	"math/rand/v2"
	"testing"

	"commonform/api"
)

// anyForm returns a tree that need not be right.
func anyForm(r *rand.Rand, depth int) api.Form {
	texts := []string{"", "0", "1", "-1", "01", "1/2", "2/4", "3f800000", "3ff0000000000000", "x", "xy", "1 1", "0 5", "2 2", "NIL", "\xff", "101"}
	f := api.Form{Kind: r.IntN(17) - 1, Text: texts[r.IntN(len(texts))], Home: []string{"", "", "", "COMMON-LISP"}[r.IntN(4)]}
	for range r.IntN(4) {
		if depth > 0 {
			f.Kids = append(f.Kids, anyForm(r, depth-1))
		}
	}
	return f
}

// P1: no function panics, and with an error there is no result.
func TestP1_1AnyArguments(t *testing.T) {
	r := rand.New(rand.NewPCG(1, 99))
	for range 20000 {
		f, g := anyForm(r, 3), anyForm(r, 1)
		e := Check(f)
		x, e1 := Normal(f)
		y, e2 := Plain(f)
		n, e3 := Nodes(f)
		d, e4 := Dimensions(f)
		_, e5 := Same(f, g)
		if e != api.OK && (e1 != e || e2 != e || e3 != e || e5 != e || e4 == api.OK || len(n)+len(d) > 0 || !Equal(x, api.Form{}) || !Equal(y, api.Form{})) {
			t.Fatalf("%v: %v, %v, %v, %v, %v", f, e, e1, e2, e3, e5)
		}
		Size(f)
		IsNil(f)
		l, tail := Spread(f)
		if again := Dotted(l, tail); f.Kind == api.FormCons && len(f.Kids) > 1 && f.Text == "" && f.Home == "" && tail.Kind != api.FormCons && !Equal(again, f) {
			t.Fatalf("Dotted of Spread of %v: %v", f, again)
		}
		Items(f)
		List(f.Kids)
		Call(f.Text, f.Kids)
	}
	for range 20000 {
		g := make([]Node, r.IntN(5))
		for i := range g {
			f := anyForm(r, 0)
			g[i] = Node{Kind: f.Kind, Text: f.Text, Home: f.Home}
			for range r.IntN(4) {
				g[i].Kids = append(g[i].Kids, r.IntN(7)-1)
			}
		}
		i, k := r.IntN(7)-1, r.IntN(7)-1
		e := CheckGraph(g)
		_, e1 := Build(g)
		_, e2 := Part(g, i)
		_, e3 := Shared(g)
		_, e4 := Circular(g, i)
		_, _, e5 := Cars(g, i)
		_, e6 := Eql(g, i, k)
		_, e7 := Alike(g, i, k)
		_, e8 := Similar(g, i, k)
		_, e9 := Coalesce(g)
		for _, got := range []api.Errno{e1, e2, e3, e4, e5, e6, e7, e8, e9} {
			if e != api.OK && got != e {
				t.Fatalf("%v: %v; want %v", g, got, e)
			}
		}
	}
}
