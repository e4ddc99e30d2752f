package types

import (
	"slices"
	"strconv"
	"strings"

	"commonform/api"
	"commonform/forms"
	"commonform/number"
)

// marks are what types name. Objects that are not named, or lie in the same gap between numbers that are named, are told apart only by what kind they are of.
type marks struct {
	objects    []api.Form // symbols, characters and complex numbers
	values     []api.Form // of real numbers and bounds, as rational numbers
	lengths    [maxLength + 1]bool
	dimensions [maxRank + 1][maxRank][maxRank + 1]bool // by rank, place and value
}

func (m *marks) addValue(x api.Form) {
	v, _ := number.Rational(x)
	m.values = append(m.values, v)
}

func (m *marks) addLength(n int) {
	if n != anySize {
		m.lengths[n] = true
	}
}

func (m *marks) addDimensions(dims []int) {
	if len(dims) == 1 {
		m.addLength(dims[0])
		return
	}
	for i, d := range dims {
		if d != anySize {
			m.dimensions[len(dims)][i][d] = true
		}
	}
}

// samples returns objects that are no conses; each one that is none is of the same types as one of them.
func (m *marks) samples() []api.Form {
	line := lineOf(m.values)
	kinds := [...]func() []api.Form{
		func() []api.Form { return m.symbols() },
		func() []api.Form { return m.characters() },
		func() []api.Form { return m.complexes() },
		func() []api.Form { return line.integers() },
		func() []api.Form { return line.ratios() },
		func() []api.Form { return line.floats(api.FormSingle) },
		func() []api.Form { return line.floats(api.FormDouble) },
		func() []api.Form { return m.vectors() },
		func() []api.Form { return m.arrays() },
	}
	var out []api.Form
	for _, of := range kinds {
		out = append(out, of()...)
	}
	return out
}

// withFresh returns the objects of a kind that are named, and the first one of some that is not.
func (m *marks) withFresh(kind int, candidate func(i int) api.Form) []api.Form {
	var out []api.Form
	for _, x := range m.objects {
		if x.Kind == kind {
			out = append(out, x)
		}
	}
	for i := range len(out) + 1 {
		x := candidate(i)
		if !slices.ContainsFunc(out, func(y api.Form) bool { return forms.Equal(x, y) }) {
			return append(out, x)
		}
	}
	return out
}

// symbols returns samples of symbols; one without a home is never named.
func (m *marks) symbols() []api.Form {
	l := m.withFresh(api.FormSymbol, func(i int) api.Form { return forms.Symbol(keyword, "K"+strconv.Itoa(i)) })
	l = append(l, forms.Symbol("", "S"))
	for _, name := range [...]string{"BUILTIN", "TABLE", "OBJECT"} {
		l = append(l, forms.Symbol(opaque, name))
	}
	return l
}

func (m *marks) characters() []api.Form {
	return m.withFresh(api.FormChar, func(i int) api.Form {
		return api.Form{Kind: api.FormChar, Text: string(rune('a' + i))}
	})
}

func (m *marks) complexes() []api.Form {
	return m.withFresh(api.FormComplex, func(i int) api.Form {
		return api.Form{Kind: api.FormComplex, Kids: []api.Form{ofInt(0), ofInt(i + 1)}}
	})
}

// sizes returns the numbers that are named, and the least one that is not.
func sizes(named []bool) []int {
	var out []int
	fresh := slices.Index(named, false)
	if fresh < 0 {
		fresh = len(named)
	}
	for n := range len(named) + 1 {
		if n == fresh || n < len(named) && named[n] {
			out = append(out, n)
		}
	}
	return out
}

func (m *marks) vectors() []api.Form {
	var out []api.Form
	for _, n := range sizes(m.lengths[:]) {
		out = append(out,
			api.Form{Kind: api.FormString, Text: strings.Repeat("a", n)},
			api.Form{Kind: api.FormBits, Text: strings.Repeat("0", n)},
			api.Form{Kind: api.FormVector, Kids: zeros(n)})
	}
	return out
}

// zeros returns n elements.
func zeros(n int) []api.Form { return slices.Repeat([]api.Form{ofInt(0)}, n) }

// arrays returns samples of arrays of all ranks, but for vectors.
func (m *marks) arrays() []api.Form {
	var out []api.Form
	for rank := range forms.MaxRank + 1 {
		if rank == 1 {
			continue
		}
		for _, dims := range m.shapes(rank) {
			out = append(out, array(dims))
		}
	}
	return out
}

// shapes returns dimensions of a rank.
func (m *marks) shapes(rank int) [][]int {
	out := [][]int{nil}
	for place := range rank {
		choices := []int{0}
		if rank <= maxRank {
			choices = sizes(m.dimensions[rank][place][:])
		}
		var longer [][]int
		for _, dims := range out {
			for _, d := range choices {
				longer = append(longer, append(slices.Clone(dims), d))
			}
		}
		out = longer
	}
	return out
}

func array(dims []int) api.Form {
	var l []string
	n := 1
	for _, d := range dims {
		l = append(l, strconv.Itoa(d))
		n *= d
	}
	return api.Form{Kind: api.FormArray, Text: strings.Join(l, " "), Kids: zeros(n)}
}
