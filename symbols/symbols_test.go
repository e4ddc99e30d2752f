package symbols

import (
	"encoding/hex"
	"fmt"
	"math/rand/v2"
	"slices"
	"strconv"
	"strings"
	"testing"

	"commonform/api"
)

const (
	runs  = 300
	steps = 120
)

func source(seed uint64) *rand.Rand { return rand.New(rand.NewPCG(seed, 10)) }

func pick[T any](r *rand.Rand, l ...T) T { return l[r.IntN(len(l))] }

// want reports an error that is not the one that is meant.
func want(t *testing.T, what string, got, e api.Errno) {
	t.Helper()
	if got != e {
		t.Errorf("%s: %v, not %v", what, got, e)
	}
}

// intern returns the number of a symbol of a right call.
func intern(t *testing.T, x *Table, pack, name string) int {
	t.Helper()
	n, _, e := x.Intern(pack, name)
	want(t, "Intern", e, api.OK)
	return n
}

// found is the symbol and the status that Find returns.
func found(x *Table, pack, name string) [2]int {
	n, status, e := x.Find(pack, name)
	if e != api.OK {
		return [2]int{-2, int(e)}
	}
	return [2]int{n, status}
}

// setup returns a table in which P exports X (0) and has Y (1), and Q has X (2) and Z (3).
func setup(t *testing.T) *Table {
	x := New()
	want(t, "Make", x.Make("P", []string{"PN"}, nil), api.OK)
	want(t, "Make", x.Make("Q", nil, nil), api.OK)
	for _, s := range []string{"P X", "P Y", "Q X", "Q Z"} {
		pack, name, _ := strings.Cut(s, " ")
		intern(t, x, pack, name)
	}
	want(t, "Export", x.Export("P", 0), api.OK)
	return x
}

func TestP10_1New(t *testing.T) {
	x := New()
	if l := x.Packages(); !slices.Equal(l, []string{"COMMON-LISP", "KEYWORD", "COMMON-LISP-USER"}) {
		t.Errorf("Packages = %v", l)
	}
	for name, want := range map[string]string{
		"CL": "{COMMON-LISP [CL] [] [COMMON-LISP-USER] [] [] []}", "KEYWORD": "{KEYWORD [] [] [] [] [] []}", "CL-USER": "{COMMON-LISP-USER [CL-USER] [COMMON-LISP] [] [] [] []}",
	} {
		if p, e := x.Package(name); fmt.Sprint(p) != want || e != api.OK {
			t.Errorf("Package(%s) = %v, %v", name, p, e)
		}
	}
	for _, s := range []string{"X", "K", ""} {
		pack := map[string]string{"X": "CL-USER", "K": "KEYWORD", "": "CL"}[s]
		a, b, e := x.Intern(pack, s)
		c, d, f := x.Intern(pack, s)
		isWrong := b != None || d != Internal && s != "K" || d != External && s == "K"
		if a != c || e != api.OK || f != api.OK || isWrong {
			t.Errorf("Intern(%s, %s) = %d, %d, %v, then %d, %d, %v", pack, s, a, b, e, c, d, f)
		}
	}
	if name, home, e := x.Symbol(0); name != "X" || home != "COMMON-LISP-USER" || e != api.OK {
		t.Errorf("Symbol(0) = %q, %q, %v", name, home, e)
	}
	if got := found(x, "CL-USER", ""); got != [2]int{-1, None} {
		t.Errorf("Find of an internal symbol of a package that is used = %v", got)
	}
}

func TestP10_1NilTable(t *testing.T) {
	var x *Table
	long := strings.Repeat("a", 61)
	n, status, e := x.Intern(long, "")
	m, other, f := x.Find(long, "")
	is, g := x.Unintern(long, 0)
	fresh, h := x.Fresh(long)
	name, home, i := x.Symbol(0)
	p, k := x.Package(long)
	if n+status+m+other+fresh != 0 || is || name+home != "" || p.Name != "" || x.Text() != "" || x.Packages() != nil {
		t.Error("a nil table has something")
	}
	for _, e := range []api.Errno{e, f, g, h, i, k, x.Make(long, nil, nil), x.Delete(long), x.Export(long, 0), x.Unexport(long, 0), x.Import(long, 0), x.Shadow(long, ""), x.ShadowingImport(long, 0), x.Use(long, ""), x.Unuse(long, "")} {
		want(t, "a nil table", e, api.ErrArg)
	}
}

func TestP10_1CommonErrors(t *testing.T) {
	x := setup(t)
	long := strings.Repeat("é", 30) + "a"
	before := x.Text()
	for pack, e := range map[string]api.Errno{long: api.ErrSize, "NONE": api.ErrNone} {
		for _, name := range []string{"X", long} {
			both := e
			if name == long {
				both = api.ErrSize
			}
			n, status, g := x.Intern(pack, name)
			want(t, "Intern", g, both)
			m, other, g := x.Find(pack, name)
			want(t, "Find", g, both)
			if n+status+m+other != 0 {
				t.Error("a result with an error")
			}
			want(t, "Shadow", x.Shadow(pack, name), both)
			want(t, "Use", x.Use(pack, name), both)
			want(t, "Unuse", x.Unuse(pack, name), both)
		}
		for _, n := range []int{0, -1, 99} {
			want(t, "Export", x.Export(pack, n), e)
			want(t, "Unexport", x.Unexport(pack, n), e)
			want(t, "Import", x.Import(pack, n), e)
			want(t, "ShadowingImport", x.ShadowingImport(pack, n), e)
			is, g := x.Unintern(pack, n)
			want(t, "Unintern", g, e)
			if is {
				t.Error("a result with an error")
			}
		}
		want(t, "Delete", x.Delete(pack), e)
		p, g := x.Package(pack)
		want(t, "Package", g, e)
		if p.Name != "" {
			t.Error("a result with an error")
		}
		want(t, "Use", x.Use("P", pack), e)
		want(t, "Unuse", x.Unuse("P", pack), e)
	}
	for _, n := range []int{-1, 4} {
		want(t, "Export", x.Export("P", n), api.ErrNone)
		want(t, "Unexport", x.Unexport("KEYWORD", n), api.ErrNone)
		want(t, "Import", x.Import("P", n), api.ErrNone)
		want(t, "ShadowingImport", x.ShadowingImport("P", n), api.ErrNone)
		is, e := x.Unintern("P", n)
		name, home, f := x.Symbol(n)
		want(t, "Unintern", e, api.ErrNone)
		want(t, "Symbol", f, api.ErrNone)
		if is || name+home != "" {
			t.Error("a result with an error")
		}
	}
	n, e := x.Fresh(long)
	want(t, "Fresh", e, api.ErrSize)
	_, _, f := x.Find("P", long[1:]+"b")
	want(t, "Find of a name with 61 bytes", f, api.ErrSize)
	if n != 0 || x.Text() != before {
		t.Error("a refused call changed something")
	}
	intern(t, x, "P", long[1:])
}

func TestP10_1Make(t *testing.T) {
	x := setup(t)
	long := strings.Repeat("a", 61)
	want(t, "Export", x.Export("Q", 2), api.OK)
	for i, y := range []struct {
		name            string
		nicknames, uses []string
		e               api.Errno
	}{
		{long, nil, nil, api.ErrSize}, {"", []string{"P", long}, nil, api.ErrSize}, {"", nil, []string{"NONE", long}, api.ErrSize}, {"", []string{"P"}, []string{"NONE"}, api.ErrArg},
		{"P", nil, []string{"NONE"}, api.ErrTwice}, {"PN", nil, []string{"NONE"}, api.ErrTwice}, {"R", []string{"A", "CL"}, []string{"NONE"}, api.ErrTwice}, {"R", []string{"R"}, []string{"NONE"}, api.ErrTwice}, {"R", []string{"A", "B", "A"}, []string{"NONE"}, api.ErrTwice},
		{"R", nil, []string{"P", "NONE", "KEYWORD"}, api.ErrNone}, {"R", nil, []string{"R"}, api.ErrNone}, {"R", nil, []string{"CL", "KEYWORD", "CL"}, api.ErrArg}, {"R", nil, []string{"P", "CL", "PN"}, api.ErrTwice}, {"R", nil, []string{"CL", "COMMON-LISP", "P", "Q"}, api.ErrTwice},
		{"R", nil, []string{"P", "Q"}, ErrClash}, {"R", nil, []string{"CL", "Q", "CL-USER", "P"}, ErrClash}, {"R", []string{""}, []string{"PN", "CL"}, api.OK}, {"S", []string{""}, nil, api.ErrTwice},
	} {
		before := x.Text()
		if e := x.Make(y.name, y.nicknames, y.uses); e != y.e || e != api.OK && x.Text() != before {
			t.Errorf("%d: Make = %v, not %v", i, e, y.e)
		}
	}
	p, _ := x.Package("")
	if fmt.Sprint(p) != "{R [] [P COMMON-LISP] [] [] [] []}" || len(p.Nicknames) != 1 {
		t.Errorf("Package = %v", p)
	}
	for i := len(x.Packages()); i < 50; i++ {
		want(t, "Make", x.Make("M"+strconv.Itoa(i), nil, nil), api.OK)
	}
	want(t, "Make", x.Make("M", nil, nil), api.ErrFull)
	want(t, "Make", x.Make("M", nil, []string{"P", "Q"}), ErrClash)
	want(t, "Delete", x.Delete("M7"), api.OK)
	want(t, "Make", x.Make("M", nil, nil), api.OK)
	if l := x.Packages(); l[len(l)-1] != "M" || len(l) != 50 {
		t.Errorf("Packages = %v", l)
	}
}

func TestP10_1Delete(t *testing.T) {
	x := setup(t)
	for _, s := range []string{"CL", "COMMON-LISP", "KEYWORD", "CL-USER"} {
		want(t, "Delete", x.Delete(s), api.ErrArg)
	}
	want(t, "Use", x.Use("Q", "CL-USER"), api.OK)
	want(t, "Delete", x.Delete("CL-USER"), api.ErrArg)
	want(t, "Use", x.Use("CL-USER", "P"), api.OK)
	want(t, "Import", x.Import("Q", 1), api.OK)
	want(t, "Delete", x.Delete("P"), ErrUsed)
	want(t, "Unuse", x.Unuse("CL-USER", "P"), api.OK)
	want(t, "Delete", x.Delete("PN"), api.OK)
	want(t, "Package", func() api.Errno { _, e := x.Package("PN"); return e }(), api.ErrNone)
	for n, want := range []string{"X ", "Y ", "X Q", "Z Q"} {
		if name, home, _ := x.Symbol(n); name+" "+home != want {
			t.Errorf("Symbol(%d) = %q, %q", n, name, home)
		}
	}
	if got := found(x, "Q", "Y"); got != [2]int{1, Internal} {
		t.Errorf("Find = %v", got)
	}
	want(t, "Make", x.Make("P", nil, nil), api.OK)
	if got := found(x, "P", "X"); got != [2]int{-1, None} {
		t.Errorf("Find = %v", got)
	}
	if l := x.Packages(); l[len(l)-1] != "P" {
		t.Errorf("Packages = %v", l)
	}
}

func TestP10_1Full(t *testing.T) {
	x := New()
	for i := range api.MaxSymbols {
		if i%2 == 0 {
			intern(t, x, "KEYWORD", strconv.Itoa(i))
			continue
		}
		n, e := x.Fresh("F")
		if n != i || e != api.OK {
			t.Fatalf("Fresh = %d, %v", n, e)
		}
	}
	before := x.Text()
	n, status, e := x.Intern("CL", "NEW")
	m, f := x.Fresh("F")
	if n+status+m != 0 || e != api.ErrFull || f != api.ErrFull || x.Shadow("CL", "NEW") != api.ErrFull || x.Text() != before {
		t.Errorf("Intern = %d, %d, %v, Fresh = %d, %v", n, status, e, m, f)
	}
	if n, status, e := x.Intern("KEYWORD", "0"); n != 0 || status != External || e != api.OK || x.Shadow("KEYWORD", "0") != api.OK {
		t.Errorf("Intern = %d, %d, %v", n, status, e)
	}
	if name, home, e := x.Symbol(1); name != "F" || home != "" || e != api.OK {
		t.Errorf("Symbol = %q, %q, %v", name, home, e)
	}
}

func TestP10_1Export(t *testing.T) {
	x := setup(t)
	want(t, "Export", x.Export("Q", 0), ErrAccess)
	want(t, "Unexport", x.Unexport("Q", 0), ErrAccess)
	want(t, "Unexport", x.Unexport("KEYWORD", 0), ErrAccess)
	want(t, "Use", x.Use("CL-USER", "P"), api.OK)
	want(t, "Unexport", x.Unexport("CL-USER", 0), api.OK)
	if got := found(x, "CL-USER", "X"); got != [2]int{0, Inherited} {
		t.Errorf("Find = %v", got)
	}
	want(t, "Export", x.Export("CL-USER", 0), api.OK)
	want(t, "Export", x.Export("CL-USER", 0), api.OK)
	if got := found(x, "CL-USER", "X"); got != [2]int{0, External} {
		t.Errorf("Find = %v", got)
	}
	want(t, "Unexport", x.Unexport("P", 0), api.OK)
	if got, other := found(x, "CL-USER", "X"), found(x, "P", "X"); got != [2]int{0, External} || other != [2]int{0, Internal} {
		t.Errorf("Find = %v, %v", got, other)
	}
	k := intern(t, x, "KEYWORD", "K")
	want(t, "Unexport", x.Unexport("KEYWORD", k), api.ErrArg)
	y := intern(t, x, "CL-USER", "Y")
	want(t, "Export", x.Export("P", 1), ErrClash)
	want(t, "Export", x.Export("P", y), ErrAccess)
	want(t, "Shadow", x.Shadow("CL-USER", "Y"), api.OK)
	want(t, "Export", x.Export("P", 1), api.OK)
	want(t, "Make", x.Make("R", nil, []string{"P"}), api.OK)
	want(t, "Use", x.Use("R", "Q"), api.OK)
	want(t, "Export", x.Export("P", 0), api.OK)
	want(t, "Export", x.Export("Q", 2), ErrClash)
}

func TestP10_1Import(t *testing.T) {
	x := setup(t)
	want(t, "Import", x.Import("Q", 0), ErrClash)
	want(t, "Shadow", x.Shadow("Q", "X"), api.OK)
	want(t, "Import", x.Import("Q", 0), ErrClash)
	want(t, "Use", x.Use("CL-USER", "P"), api.OK)
	want(t, "Import", x.Import("CL-USER", 0), api.OK)
	want(t, "Import", x.Import("CL-USER", 2), ErrClash)
	if got := found(x, "CL-USER", "X"); got != [2]int{0, Internal} {
		t.Errorf("Find = %v", got)
	}
	n, _ := x.Fresh("N")
	want(t, "Import", x.Import("P", n), api.OK)
	want(t, "Import", x.Import("KEYWORD", n), api.OK)
	if _, home, _ := x.Symbol(n); home != "P" || found(x, "KEYWORD", "N") != [2]int{n, Internal} {
		t.Errorf("the home is %q", home)
	}
	want(t, "Import", x.Import("P", 0), api.OK)
	if got := found(x, "P", "X"); got != [2]int{0, External} {
		t.Errorf("Find = %v", got)
	}
	// a symbol that is present without a home stays so
	is, _ := x.Unintern("P", n)
	want(t, "Import", x.Import("KEYWORD", n), api.OK)
	if _, home, _ := x.Symbol(n); home != "" || !is {
		t.Errorf("the home is %q", home)
	}
	want(t, "Import", x.Import("CL", 1), api.OK)
	if _, home, _ := x.Symbol(1); home != "P" {
		t.Errorf("the home is %q", home)
	}
}

func TestP10_1Shadow(t *testing.T) {
	x := setup(t)
	want(t, "Use", x.Use("CL-USER", "P"), api.OK)
	want(t, "Shadow", x.Shadow("CL-USER", "X"), api.OK)
	if got := found(x, "CL-USER", "X"); got != [2]int{4, Internal} {
		t.Errorf("Find = %v", got)
	}
	if _, home, _ := x.Symbol(4); home != "COMMON-LISP-USER" {
		t.Errorf("the home is %q", home)
	}
	want(t, "Shadow", x.Shadow("P", "X"), api.OK)
	want(t, "Shadow", x.Shadow("KEYWORD", "X"), api.OK)
	if got, other := found(x, "P", "X"), found(x, "KEYWORD", "X"); got != [2]int{0, External} || other != [2]int{5, Internal} {
		t.Errorf("Find = %v, %v", got, other)
	}
	want(t, "ShadowingImport", x.ShadowingImport("CL-USER", 2), api.OK)
	if _, home, _ := x.Symbol(4); home != "" {
		t.Errorf("the home is %q", home)
	}
	p, _ := x.Package("CL-USER")
	q, _ := x.Package("P")
	if !slices.Equal(p.Internal, []int{2}) || !slices.Equal(p.Shadowing, []int{2}) || !slices.Equal(q.Shadowing, []int{0}) || !slices.Equal(q.External, []int{0}) {
		t.Errorf("Package = %v, %v", p, q)
	}
	want(t, "ShadowingImport", x.ShadowingImport("P", 2), api.OK)
	want(t, "ShadowingImport", x.ShadowingImport("P", 2), api.OK)
	if _, home, _ := x.Symbol(0); home != "" || found(x, "P", "X") != [2]int{2, Internal} {
		t.Errorf("the home is %q", home)
	}
	n, _ := x.Fresh("N")
	want(t, "ShadowingImport", x.ShadowingImport("P", n), api.OK)
	if _, home, _ := x.Symbol(n); home != "" || found(x, "P", "N") != [2]int{n, Internal} {
		t.Errorf("the home is %q", home)
	}
}

func TestP10_1Unintern(t *testing.T) {
	x := setup(t)
	want(t, "Shadow", x.Shadow("CL-USER", "X"), api.OK)
	want(t, "Export", x.Export("Q", 2), api.OK)
	want(t, "Use", x.Use("CL-USER", "P"), api.OK)
	for _, n := range []int{0, 1, 2} {
		if is, e := x.Unintern("CL-USER", n); is || e != api.OK {
			t.Errorf("Unintern(%d) = %v, %v", n, is, e)
		}
	}
	want(t, "Use", x.Use("CL-USER", "Q"), api.OK)
	if is, e := x.Unintern("CL-USER", 4); is || e != ErrClash {
		t.Errorf("Unintern = %v, %v", is, e)
	}
	want(t, "Unexport", x.Unexport("P", 0), api.OK)
	if is, e := x.Unintern("CL-USER", 4); !is || e != api.OK || found(x, "CL-USER", "X") != [2]int{2, Inherited} {
		t.Errorf("Unintern = %v, %v", is, e)
	}
	if _, home, _ := x.Symbol(4); home != "" {
		t.Errorf("the home is %q", home)
	}
	want(t, "Import", x.Import("CL-USER", 1), api.OK)
	want(t, "Export", x.Export("CL-USER", 1), api.OK)
	if is, e := x.Unintern("CL-USER", 1); !is || e != api.OK {
		t.Errorf("Unintern = %v, %v", is, e)
	}
	if _, home, _ := x.Symbol(1); home != "P" {
		t.Errorf("the home is %q", home)
	}
	want(t, "Import", x.Import("CL-USER", 1), api.OK)
	if got := found(x, "CL-USER", "Y"); got != [2]int{1, Internal} {
		t.Errorf("Find = %v", got)
	}
}

func TestP10_1Use(t *testing.T) {
	x := setup(t)
	want(t, "Use", x.Use("P", "PN"), api.ErrArg)
	want(t, "Use", x.Use("P", "KEYWORD"), api.ErrArg)
	want(t, "Use", x.Use("KEYWORD", "P"), api.OK)
	want(t, "Use", x.Use("Q", "P"), ErrClash)
	want(t, "Use", x.Use("CL-USER", "PN"), api.OK)
	want(t, "Use", x.Use("CL-USER", "Q"), api.OK)
	want(t, "Use", x.Use("CL-USER", "P"), api.OK)
	want(t, "Export", x.Export("Q", 3), api.OK)
	want(t, "Unuse", x.Unuse("CL-USER", "CL"), api.OK)
	want(t, "Unuse", x.Unuse("CL-USER", "CL"), api.OK)
	p, _ := x.Package("CL-USER")
	q, _ := x.Package("P")
	if !slices.Equal(p.Uses, []string{"P", "Q"}) || !slices.Equal(q.UsedBy, []string{"KEYWORD", "COMMON-LISP-USER"}) {
		t.Errorf("Package = %v, %v", p, q)
	}
	want(t, "Make", x.Make("R", nil, []string{"Q", "CL"}), api.OK)
	want(t, "Make", x.Make("S", nil, nil), api.OK)
	z := intern(t, x, "S", "Z")
	want(t, "Export", x.Export("S", z), api.OK)
	want(t, "Use", x.Use("R", "S"), ErrClash)
	want(t, "Shadow", x.Shadow("R", "Z"), api.OK)
	want(t, "Use", x.Use("R", "S"), api.OK)
	p, _ = x.Package("R")
	p.Uses[0], p.Shadowing[0] = "CHANGED", 99
	if q, _ := x.Package("R"); !slices.Equal(q.Uses, []string{"Q", "COMMON-LISP", "S"}) || !slices.Equal(q.Shadowing, []int{5}) {
		t.Errorf("Package = %v", q)
	}
}

// model is the description of a table: packages are lists of what is present.
type model struct {
	names, homes []string
	packs        []*modelPack
}

type modelPack struct {
	name                         string
	nicknames, uses              []string
	present, external, shadowing []int
}

func newModel() *model {
	return &model{packs: []*modelPack{{name: "COMMON-LISP", nicknames: []string{"CL"}}, {name: "KEYWORD"}, {name: "COMMON-LISP-USER", nicknames: []string{"CL-USER"}, uses: []string{"COMMON-LISP"}}}}
}

func (m *model) pack(s string) *modelPack {
	for _, p := range m.packs {
		if p.name == s || slices.Contains(p.nicknames, s) {
			return p
		}
	}
	return nil
}

// accessible returns all symbols with a name, present ones first.
func (m *model) accessible(p *modelPack, name string) []int {
	var out []int
	add := func(l []int) {
		for _, n := range l {
			if m.names[n] == name && !slices.Contains(out, n) {
				out = append(out, n)
			}
		}
	}
	add(p.present)
	for _, s := range p.uses {
		add(m.pack(s).external)
	}
	return out
}

func (m *model) isPresent(p *modelPack, n int) bool { return slices.Contains(p.present, n) }

func (m *model) find(p *modelPack, name string) (int, int) {
	l := m.accessible(p, name)
	switch {
	case len(l) == 0:
		return -1, None
	case slices.Contains(p.external, l[0]):
		return l[0], External
	case m.isPresent(p, l[0]):
		return l[0], Internal
	}
	return l[0], Inherited
}

// conflict reports whether a package would have one: two symbols under a name, without a shadowing one.
func (m *model) conflict() bool {
	for _, p := range m.packs {
		for _, name := range m.names {
			l := m.accessible(p, name)
			if len(l) > 1 && !slices.ContainsFunc(l, func(n int) bool { return slices.Contains(p.shadowing, n) }) {
				return true
			}
		}
	}
	return false
}

func without(l []int, n int) []int {
	return slices.DeleteFunc(slices.Clone(l), func(m int) bool { return m == n })
}

func with(l []int, n int) []int {
	l = append(without(l, n), n)
	slices.Sort(l)
	return l
}

func (m *model) unintern(p *modelPack, n int) {
	p.present, p.external, p.shadowing = without(p.present, n), without(p.external, n), without(p.shadowing, n)
	if m.homes[n] == p.name {
		m.homes[n] = ""
	}
}

func (m *model) make(p *modelPack, name string) int {
	m.names, m.homes = append(m.names, name), append(m.homes, p.name)
	p.present = with(p.present, len(m.names)-1)
	return len(m.names) - 1
}

func (m *model) clone() *model {
	out := &model{names: slices.Clone(m.names), homes: slices.Clone(m.homes)}
	for _, p := range m.packs {
		q := *p
		q.uses = slices.Clone(p.uses)
		out.packs = append(out.packs, &q)
	}
	return out
}

// step does an operation, and returns its error; a conflict is found by looking at all names afterwards.
func (m *model) step(op int, pack, other, name string, n int) api.Errno {
	p, q := m.pack(pack), m.pack(other)
	if p == nil || (op == 7 || op == 8) && q == nil || op >= 2 && op <= 6 && n >= len(m.names) {
		return api.ErrNone
	}
	known, status := -1, None
	if op >= 2 && op <= 6 {
		known, status = m.find(p, m.names[n])
	}
	switch op {
	case 0: // Intern
		if found, _ := m.find(p, name); found < 0 {
			k := m.make(p, name)
			if p.name == "KEYWORD" {
				p.external = with(p.external, k)
			}
		}
	case 1: // Shadow
		for _, k := range p.present {
			if m.names[k] == name {
				p.shadowing = with(p.shadowing, k)
				return api.OK
			}
		}
		p.shadowing = with(p.shadowing, m.make(p, name))
	case 2: // Export
		if known != n {
			return ErrAccess
		}
		p.present, p.external = with(p.present, n), with(p.external, n)
	case 3: // Unexport
		if known != n {
			return ErrAccess
		}
		if p.name == "KEYWORD" {
			return api.ErrArg
		}
		p.external = without(p.external, n)
	case 4: // Import
		if status != None && known != n {
			return ErrClash
		}
		if !m.isPresent(p, n) && m.homes[n] == "" {
			m.homes[n] = p.name
		}
		p.present = with(p.present, n)
	case 5: // ShadowingImport
		if status != None && known != n && m.isPresent(p, known) {
			m.unintern(p, known)
		}
		p.present, p.shadowing = with(p.present, n), with(p.shadowing, n)
	case 6: // Unintern
		if m.isPresent(p, n) {
			m.unintern(p, n)
		}
	case 7: // Use
		if p == q || q.name == "KEYWORD" {
			return api.ErrArg
		}
		if !slices.Contains(p.uses, q.name) {
			p.uses = append(p.uses, q.name)
		}
	case 8: // Unuse
		p.uses = slices.DeleteFunc(p.uses, func(s string) bool { return s == q.name })
	}
	if m.conflict() {
		return ErrClash
	}
	return api.OK
}

// call does the same on a table.
func call(x *Table, op int, pack, other, name string, n int) (e api.Errno) {
	switch op {
	case 0:
		_, _, e = x.Intern(pack, name)
	case 1:
		e = x.Shadow(pack, name)
	case 2:
		e = x.Export(pack, n)
	case 3:
		e = x.Unexport(pack, n)
	case 4:
		e = x.Import(pack, n)
	case 5:
		e = x.ShadowingImport(pack, n)
	case 6:
		_, e = x.Unintern(pack, n)
	case 7:
		e = x.Use(pack, other)
	case 8:
		e = x.Unuse(pack, other)
	}
	return e
}

func hexed(s string) string { return "x" + hex.EncodeToString([]byte(s)) }

func row[T any](l []T, write func(T) string) string {
	var out []string
	for _, x := range l {
		out = append(out, write(x))
	}
	if len(out) == 0 {
		return "-"
	}
	return strings.Join(out, ",")
}

func (m *model) text() string {
	out := ""
	for n, s := range m.names {
		home := "-"
		if m.homes[n] != "" {
			home = hexed(m.homes[n])
		}
		out += "symbol " + hexed(s) + " " + home + "\n"
	}
	for _, p := range m.packs {
		internal := slices.DeleteFunc(slices.Clone(p.present), func(n int) bool { return slices.Contains(p.external, n) })
		out += strings.Join([]string{"package", hexed(p.name), row(p.nicknames, hexed), row(p.uses, hexed), row(internal, strconv.Itoa), row(p.external, strconv.Itoa), row(p.shadowing, strconv.Itoa)}, " ") + "\n"
	}
	return out
}

func packNames() []string {
	return []string{"COMMON-LISP", "CL-USER", "KEYWORD", "A", "B", "C", "AN", "A", "B", "C"}
}

// randomTable makes random steps on a table and a model, and looks at both behind each one.
func randomTable(t *testing.T, r *rand.Rand, look func(x *Table, m *model)) *Table {
	x, m := New(), newModel()
	for _, s := range []string{"A", "B", "C"} {
		want(t, "Make", x.Make(s, []string{s + "N"}, nil), api.OK)
		m.packs = append(m.packs, &modelPack{name: s, nicknames: []string{s + "N"}})
	}
	for range steps {
		op, pack, other, name, n := r.IntN(9), pick(r, packNames()...), pick(r, packNames()...), pick(r, "x", "y", "", "é"), r.IntN(9)
		if r.IntN(40) == 0 {
			pack = "NONE"
		}
		next := m.clone()
		e := next.step(op, pack, other, name, n)
		before := x.Text()
		if got := call(x, op, pack, other, name, n); got != e {
			t.Fatalf("the operation %d of %s, %s, %q, %d: %v, not %v, in\n%s", op, pack, other, name, n, got, e, before)
		}
		if e == api.OK {
			m = next
		} else if x.Text() != before {
			t.Fatalf("the refused operation %d changed\n%s to\n%s", op, before, x.Text())
		}
		if x.Text() != m.text() {
			t.Fatalf("the operation %d of %s, %s, %q, %d made\n%s, not\n%s", op, pack, other, name, n, x.Text(), m.text())
		}
		look(x, m)
	}
	return x
}

func TestP10_5Refused(t *testing.T) {
	r := source(1)
	for range runs {
		randomTable(t, r, func(x *Table, m *model) {})
	}
}

func TestP10_2OneMeaning(t *testing.T) {
	r := source(2)
	for range runs / 10 {
		randomTable(t, r, func(x *Table, m *model) {
			for _, p := range m.packs {
				for _, name := range []string{"x", "y", "", "é", "z"} {
					n, status := m.find(p, name)
					if got := found(x, p.name, name); got != [2]int{n, status} {
						t.Fatalf("Find(%s, %q) = %v, not %d, %d", p.name, name, got, n, status)
					}
					if l := m.accessible(p, name); len(l) > 1 && !slices.Contains(p.shadowing, l[0]) {
						t.Fatalf("%q has several meanings in %s", name, p.name)
					}
				}
			}
		})
	}
}

func TestP10_3Identity(t *testing.T) {
	r := source(3)
	for range runs / 10 {
		names := map[int]string{}
		x := randomTable(t, r, func(x *Table, m *model) {
			for n := range m.names {
				name, _, _ := x.Symbol(n)
				if old, ok := names[n]; ok && old != name {
					t.Fatalf("the name of %d was %q and is %q", n, old, name)
				}
				names[n] = name
			}
		})
		for _, pack := range x.Packages() {
			p, _ := x.Package(pack)
			for _, n := range append(p.Internal, p.External...) {
				if got := found(x, pack, names[n]); got[0] != n {
					t.Fatalf("Find(%s, %q) = %v, not %d", pack, names[n], got, n)
				}
			}
			for _, user := range p.UsedBy {
				q, _ := x.Package(user)
				if !slices.Contains(q.Uses, p.Name) {
					t.Fatalf("%s does not use %s", user, p.Name)
				}
				for _, n := range p.External {
					if got := found(x, user, names[n]); got[0] != n && !slices.Contains(q.Shadowing, got[0]) {
						t.Fatalf("Find(%s, %q) = %v, not %d", user, names[n], got, n)
					}
				}
			}
			a, _, e := x.Intern(pack, "new")
			b, _, f := x.Intern(pack, "new")
			if a != b || e != api.OK || f != api.OK {
				t.Fatalf("Intern twice: %d, %d", a, b)
			}
		}
	}
}

func TestP10_4ThereAndBack(t *testing.T) {
	r := source(4)
	for range runs {
		x := randomTable(t, r, func(x *Table, m *model) {})
		before := x.Text()
		pack, other := pick(r, "A", "B", "C"), pick(r, packNames()...)
		p, _ := x.Package(pack)
		o, _ := x.Package(other)
		if !slices.Contains(p.Uses, o.Name) {
			switch e := x.Use(pack, other); e {
			case api.OK:
				want(t, "Unuse", x.Unuse(pack, other), api.OK)
			case ErrClash:
				for _, n := range o.External {
					name, _, _ := x.Symbol(n)
					want(t, "Shadow", x.Shadow(pack, name), api.OK)
				}
				want(t, "Use", x.Use(pack, other), api.OK)
				continue
			}
		}
		for _, n := range p.Internal {
			if x.Export(pack, n) == api.OK {
				want(t, "Unexport", x.Unexport(pack, n), api.OK)
			}
		}
		if x.Text() != before {
			t.Fatalf("%s, not %s", x.Text(), before)
		}
	}
}

func TestP10_6Texts(t *testing.T) {
	r := source(5)
	for range runs {
		x := randomTable(t, r, func(x *Table, m *model) {})
		y, e := Parse(x.Text())
		if e != api.OK || y.Text() != x.Text() {
			t.Fatalf("Parse(%s): %v", x.Text(), e)
		}
		for range steps / 2 {
			op, pack, other, name, n := r.IntN(9), pick(r, packNames()...), pick(r, packNames()...), pick(r, "x", "y", "w"), r.IntN(9)
			if e, f := call(x, op, pack, other, name, n), call(y, op, pack, other, name, n); e != f || x.Text() != y.Text() {
				t.Fatalf("the operation %d: %v, %v", op, e, f)
			}
		}
		if e, f := x.Delete("A"), y.Delete("A"); e != f || x.Text() != y.Text() {
			t.Fatalf("Delete: %v, %v", e, f)
		}
	}
}

func TestP10_1Parse(t *testing.T) {
	first := "package x434f4d4d4f4e2d4c495350 x434c - - - -\npackage x4b4559574f5244 - - - - -\npackage x434f4d4d4f4e2d4c4953502d55534552 x434c2d55534552 x434f4d4d4f4e2d4c495350 - - -\n"
	symbol := "symbol x58 -\n"
	many := strings.Repeat(symbol, api.MaxSymbols)
	packs := ""
	for i := range 47 {
		packs += "package " + hexed("P"+strconv.Itoa(i)) + " - - - - -\n"
	}
	p, q := hexed("P"), hexed("Q")
	for in, want := range map[string]api.Errno{
		first: api.OK, symbol + first: api.OK, symbol + symbol + first + "package " + p + " - - 0 - -\n": api.OK, "symbol x -\n" + first: api.OK, "symbol x58 " + p + "\n" + first + "package " + p + " - - 0 - -\n": api.OK, "symbol x58 " + p + "\n" + first + "package " + p + " x,x00 - - 0 0\n": api.OK, many + first: api.OK, first + packs: api.OK,
		"symbol " + hexed(strings.Repeat("a", 60)) + " -\n" + first:                  api.OK,
		first + "package " + p + " - " + q + " - - -\npackage " + q + " - - - - -\n": api.OK,
		"": api.ErrForm, "\n": api.ErrForm, first[1:]: api.ErrForm, first[:len(first)-1]: api.ErrForm, first + "\n": api.ErrForm, " " + first: api.ErrForm, strings.Replace(first, " ", "  ", 1): api.ErrForm, strings.ReplaceAll(first, "\n", "\r\n"): api.ErrForm, first + "x": api.ErrForm,
		many + symbol + first: api.ErrForm, first + packs + "package " + p + " - - - - -\n": api.ErrForm, first + symbol: api.ErrForm, "symbol X58 -\n" + first: api.ErrForm, "symbol 58 -\n" + first: api.ErrForm, "symbol x5 -\n" + first: api.ErrForm, "symbol x5G -\n" + first: api.ErrForm, "symbol x4F -\n" + first: api.ErrForm, "symbol x58 x\n" + first: api.ErrForm, "symbol x58 x58\n" + first: api.ErrForm, "symbol x58 - -\n" + first: api.ErrForm, "sym x58 -\n" + first: api.ErrForm,
		"symbol " + hexed(strings.Repeat("a", 61)) + " -\n" + first: api.ErrForm, first + "package " + hexed(strings.Repeat("a", 61)) + " - - - - -\n": api.ErrForm, first + "package " + p + " " + hexed(strings.Repeat("a", 61)) + " - - - -\n": api.ErrForm,
		strings.Replace(first, " x434c ", " - ", 1): api.ErrForm, strings.Join([]string{first[strings.Index(first, "\n")+1:], first[:strings.Index(first, "\n")+1]}, ""): api.ErrForm, strings.Replace(first, "x4b4559574f5244 -", "x4b4559574f5244 x4b", 1): api.ErrForm, first[:strings.LastIndex(first, "package")]: api.ErrForm,
		first + "package x - - - - -\n": api.ErrForm, first + "package x434c - - - - -\n": api.ErrForm, first + "package " + p + " x434c - - - -\n": api.ErrForm, first + "package " + p + " " + p + " - - - -\n": api.ErrForm, first + "package " + p + " " + q + "," + q + " - - - -\n": api.ErrForm,
		first + "package " + p + " - " + q + " - - -\n": api.ErrForm, first + "package " + p + " - " + p + " - - -\n": api.ErrForm, first + "package " + p + " - x434c - - -\n": api.ErrForm, first + "package " + p + " - x4b4559574f5244 - - -\n": api.ErrForm, first + "package " + p + " - " + q + "," + q + " - - -\npackage " + q + " - - - - -\n": api.ErrForm,
		symbol + first + "package " + p + " - - 1 - -\n": api.ErrForm, symbol + first + "package " + p + " - - -1 - -\n": api.ErrForm, symbol + first + "package " + p + " - - 00 - -\n": api.ErrForm, symbol + first + "package " + p + " - - a - -\n": api.ErrForm, symbol + first + "package " + p + " - - 0 0 -\n": api.ErrForm, symbol + first + "package " + p + " - - 0,0 - -\n": api.ErrForm, symbol + symbol + first + "package " + p + " - - 0,1 - -\n": api.ErrForm, symbol + symbol + first + "package " + p + " - - 0 1 -\n": api.ErrForm, symbol + "symbol x59 -\n" + first + "package " + p + " - - 1,0 - -\n": api.ErrForm,
		symbol + first + "package " + p + " - - - - 0\n": api.ErrForm, symbol + first + "package " + p + " - - 0 - 1\n": api.ErrForm, symbol + symbol + first + "package " + p + " - - 0 - 1\n": api.ErrForm, symbol + first + "package " + p + " - - 0 - 0,0\n": api.ErrForm, symbol + first + "package " + p + " - - 99999999999999999999 - -\n": api.ErrForm, symbol + first + "package " + p + " - - 0 -\n": api.ErrForm,
		"symbol x58 " + p + "\n" + first: api.ErrForm, "symbol x58 " + p + "\n" + first + "package " + p + " - - - - -\n": api.ErrForm, "symbol x58 " + q + "\n" + first + "package " + p + " " + q + " - 0 - -\n": api.ErrForm, "symbol x58 " + p + "\nsymbol x58 -\n" + first + "package " + p + " - - 1 - -\n": api.ErrForm,
		symbol + symbol + first + "package " + p + " - " + q + " 0 - -\npackage " + q + " - - - 1 -\n": api.ErrForm, symbol + symbol + first + "package " + p + " - " + q + " 0 - 0\npackage " + q + " - - - 1 -\n": api.OK, symbol + first + "package " + p + " - " + q + " 0 - -\npackage " + q + " - - - 0 -\n": api.OK, symbol + symbol + first + "package " + p + " - " + q + " 0 - -\npackage " + q + " - - 1 - -\n": api.OK,
		symbol + symbol + first + "package " + p + " - " + q + ",x52 - - -\npackage " + q + " - - - 1 -\npackage x52 - - - 0 -\n": api.ErrForm, strings.Repeat(" ", 200001): api.ErrSize, strings.Repeat(" ", 200000): api.ErrForm, "symbol x58 -,-\n" + first: api.ErrForm, "symbol x58 x50,x50\n" + first: api.ErrForm, first + "package " + p + " , - - - -\n": api.ErrForm,
	} {
		x, e := Parse(in)
		if e != want || (x == nil) != (e != api.OK) || e == api.OK && x.Text() != in {
			t.Errorf("Parse(%.300q): %v, not %v", in, e, want)
		}
	}
	x, _ := Parse(symbol + first)
	if n, status, e := x.Intern("CL-USER", "X"); n != 1 || status != None || e != api.OK || x.Delete("KEYWORD") != api.ErrArg || x.Make("CL", nil, nil) != api.ErrTwice {
		t.Errorf("Intern = %d, %d, %v", n, status, e)
	}
}

func TestP10_6AnyTexts(t *testing.T) {
	r := source(6)
	for range 20 * runs {
		x := setup(t)
		s := []byte(x.Text())
		for range 1 + r.IntN(2) {
			i := r.IntN(len(s))
			switch r.IntN(3) {
			case 0:
				s = slices.Delete(s, i, min(len(s), i+1+r.IntN(3)))
			case 1:
				s[i] = pick(r, byte('-'), ' ', '0', '1', 'x', ',', '\n', '5')
			default:
				s = slices.Insert(s, i, pick(r, byte('-'), ' ', '0', '1', 'x', ',', '\n', '5'))
			}
		}
		if y, e := Parse(string(s)); e == api.OK && y.Text() != string(s) || e != api.OK && (e != api.ErrForm || y != nil) {
			t.Fatalf("Parse(%q): %v", s, e)
		}
	}
}
