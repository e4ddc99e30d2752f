package symbols

import "commonform/api"

// Intern returns the symbol with a name, and makes one if there is none.
func (t *Table) Intern(pack, name string) (symbol, status int, e api.Errno) {
	symbol, status, e = t.Find(pack, name)
	if e != api.OK || status != None {
		return symbol, status, e
	}
	p := t.packages[pack]
	symbol, e = t.fresh(name, p.name)
	if e != api.OK {
		return 0, 0, e
	}
	p.present[name] = symbol
	if p.name == keyword {
		p.external[symbol] = true
	}
	return symbol, None, api.OK
}

// Find returns the accessible symbol with a name.
func (t *Table) Find(pack, name string) (symbol, status int, e api.Errno) {
	p, e := t.find(pack, name)
	if e != api.OK {
		return 0, 0, e
	}
	symbol, status = t.accessible(p, name)
	return symbol, status, api.OK
}

// findAccessible returns the package that a text means; ErrAccess if a symbol is not accessible there.
func (t *Table) findAccessible(name string, symbol int) (*pack, api.Errno) {
	p, s, e := t.findBoth(name, symbol)
	if e != api.OK {
		return nil, e
	}
	if n, _ := t.accessible(p, s.name); n != symbol {
		return nil, ErrAccess
	}
	return p, api.OK
}

// Export makes a symbol external.
func (t *Table) Export(pack string, symbol int) api.Errno {
	p, e := t.findAccessible(pack, symbol)
	if e != api.OK {
		return e
	}
	for q := range t.users(p) {
		if t.clashes(q)(symbol) {
			return ErrClash
		}
	}
	p.present[t.symbols[symbol].name] = symbol
	p.external[symbol] = true
	return api.OK
}

// Unexport makes a symbol internal.
func (t *Table) Unexport(pack string, symbol int) api.Errno {
	p, e := t.findAccessible(pack, symbol)
	if e != api.OK {
		return e
	}
	if p.name == keyword {
		return api.ErrArg
	}
	delete(p.external, symbol)
	return api.OK
}

// Import makes a symbol present.
func (t *Table) Import(pack string, symbol int) api.Errno {
	p, s, e := t.findBoth(pack, symbol)
	if e != api.OK {
		return e
	}
	n, status := t.accessible(p, s.name)
	switch {
	case status != None && n != symbol:
		return ErrClash
	case status == Internal || status == External:
		return api.OK
	}
	p.present[s.name] = symbol
	if s.home == "" {
		t.symbols[symbol].home = p.name
	}
	return api.OK
}

// Shadow makes a symbol with a name present and shadowing.
func (t *Table) Shadow(pack, name string) api.Errno {
	p, e := t.find(pack, name)
	if e != api.OK {
		return e
	}
	n, ok := p.present[name]
	if !ok {
		n, e = t.fresh(name, p.name)
		if e != api.OK {
			return e
		}
		p.present[name] = n
	}
	p.shadowing[n] = true
	return api.OK
}

// ShadowingImport makes a symbol present and shadowing.
func (t *Table) ShadowingImport(pack string, symbol int) api.Errno {
	p, s, e := t.findBoth(pack, symbol)
	if e != api.OK {
		return e
	}
	if n, ok := p.present[s.name]; ok && n != symbol {
		t.remove(p, n)
	}
	p.present[s.name] = symbol
	p.shadowing[symbol] = true
	return api.OK
}

// Unintern takes a symbol away from a package.
func (t *Table) Unintern(pack string, symbol int) (bool, api.Errno) {
	p, s, e := t.findBoth(pack, symbol)
	if e != api.OK {
		return false, e
	}
	if n, ok := p.present[s.name]; !ok || n != symbol {
		return false, api.OK
	}
	if p.shadowing[symbol] && t.isAmbiguous(p, s.name) {
		return false, ErrClash
	}
	t.remove(p, symbol)
	return true, api.OK
}

// Fresh makes a symbol without a home.
func (t *Table) Fresh(name string) (int, api.Errno) {
	if e := t.check(name); e != api.OK {
		return 0, e
	}
	return t.fresh(name, "")
}

// Symbol returns a symbol's name and home.
func (t *Table) Symbol(symbol int) (name, home string, e api.Errno) {
	if e := t.check(); e != api.OK {
		return "", "", e
	}
	if !t.isSymbol(symbol) {
		return "", "", api.ErrNone
	}
	return t.symbols[symbol].name, t.symbols[symbol].home, api.OK
}
