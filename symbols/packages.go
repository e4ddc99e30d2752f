package symbols

import (
	"slices"

	"commonform/api"
)

// Make makes a package.
func (t *Table) Make(name string, nicknames, uses []string) api.Errno {
	names := append([]string{name}, nicknames...)
	if e := t.check(append(names, uses...)...); e != api.OK {
		return e
	}
	if name == "" {
		return api.ErrArg
	}
	if t.isTaken(names) {
		return api.ErrTwice
	}
	p := newPack(name, slices.Clone(nicknames), nil)
	for _, s := range uses {
		if e := t.mayUse(p, s); e != api.OK {
			return e
		}
		p.uses = append(p.uses, t.packages[s].name)
	}
	if t.hasClash(p) {
		return ErrClash
	}
	if len(t.order) >= maxPackages {
		return api.ErrFull
	}
	t.add(p)
	return api.OK
}

// isTaken reports whether one of some names means a package, or stands twice.
func (t *Table) isTaken(names []string) bool {
	seen := map[string]bool{}
	for _, s := range names {
		if t.packages[s] != nil || seen[s] {
			return true
		}
		seen[s] = true
	}
	return false
}

// mayUse returns the error of a name of a package that a new package is to use.
func (t *Table) mayUse(p *pack, name string) api.Errno {
	q := t.packages[name]
	switch {
	case q == nil:
		return api.ErrNone
	case q.name == keyword:
		return api.ErrArg
	case slices.Contains(p.uses, q.name):
		return api.ErrTwice
	}
	return api.OK
}

// hasClash reports whether a name in a package has several meanings.
func (t *Table) hasClash(p *pack) bool {
	isClash := t.clashes(p)
	for _, other := range p.uses {
		if slices.ContainsFunc(sorted(t.packages[other].external), isClash) {
			return true
		}
	}
	return false
}

// Delete takes a package away.
func (t *Table) Delete(pack string) api.Errno {
	p, e := t.find(pack)
	if e != api.OK {
		return e
	}
	if slices.Index(t.order, p.name) < first {
		return api.ErrArg
	}
	for range t.users(p) {
		return ErrUsed
	}
	for i := range t.symbols {
		if t.symbols[i].home == p.name {
			t.symbols[i].home = ""
		}
	}
	for _, s := range append([]string{p.name}, p.nicknames...) {
		delete(t.packages, s)
	}
	t.order = slices.DeleteFunc(t.order, func(s string) bool { return s == p.name })
	return api.OK
}

// Use makes a package use another one.
func (t *Table) Use(pack, other string) api.Errno {
	p, q, e := t.findTwo(pack, other)
	if e != api.OK {
		return e
	}
	if p == q || q.name == keyword {
		return api.ErrArg
	}
	if slices.Contains(p.uses, q.name) {
		return api.OK
	}
	if slices.ContainsFunc(sorted(q.external), t.clashes(p)) {
		return ErrClash
	}
	p.uses = append(p.uses, q.name)
	return api.OK
}

// Unuse ends it.
func (t *Table) Unuse(pack, other string) api.Errno {
	p, q, e := t.findTwo(pack, other)
	if e != api.OK {
		return e
	}
	p.uses = slices.DeleteFunc(p.uses, func(s string) bool { return s == q.name })
	return api.OK
}

// Packages returns the names of all packages.
func (t *Table) Packages() []string {
	if t == nil {
		return nil
	}
	return slices.Clone(t.order)
}

// Package returns what is known of a package.
func (t *Table) Package(pack string) (Package, api.Errno) {
	p, e := t.find(pack)
	if e != api.OK {
		return Package{}, e
	}
	out := Package{
		Name:      p.name,
		Nicknames: slices.Clone(p.nicknames),
		Uses:      slices.Clone(p.uses),
		Internal:  p.internal(),
		External:  sorted(p.external),
		Shadowing: sorted(p.shadowing),
	}
	for q := range t.users(p) {
		out.UsedBy = append(out.UsedBy, q.name)
	}
	return out, api.OK
}

// internal returns the numbers of the internal symbols, ascending.
func (p *pack) internal() []int {
	var out []int
	for _, n := range p.present {
		if !p.external[n] {
			out = append(out, n)
		}
	}
	slices.Sort(out)
	return out
}
