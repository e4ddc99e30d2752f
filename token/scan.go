package token

import (
	"iter"
	"unicode/utf8"

	"commonform/api"
)

// checkText returns the error of a text.
func checkText(s string) api.Errno {
	switch {
	case len(s) > api.MaxSource:
		return api.ErrSize
	case !utf8.ValidString(s):
		return api.ErrForm
	}
	return api.OK
}

// isPlace reports whether at is a place in a text without an error.
func isPlace(s string, at int) bool {
	return at == len(s) || at >= 0 && at < len(s) && utf8.RuneStart(s[at])
}

// check returns the first error of a readtable, a text and a place in it.
func check(t Table, s string, at int) api.Errno {
	if e := Check(t); e != api.OK {
		return e
	}
	return checkPlace(s, at)
}

func checkPlace(s string, at int) api.Errno {
	if e := checkText(s); e != api.OK {
		return e
	}
	if !isPlace(s, at) {
		return api.ErrArg
	}
	return api.OK
}

// characters comes to the characters of a text from a place on, each with its place.
func characters(s string, at int) iter.Seq2[int, rune] {
	return func(yield func(int, rune) bool) {
		for i, c := range s[at:] {
			if !yield(at+i, c) {
				return
			}
		}
	}
}

// Skip returns where the white characters end.
func Skip(t Table, s string, at int) (int, api.Errno) {
	if e := check(t, s, at); e != api.OK {
		return 0, e
	}
	for i, c := range characters(s, at) {
		if t.kind(c) != White {
			return i, api.OK
		}
	}
	return len(s), api.OK
}

// Next returns the token that begins at a place, and where it ends.
func Next(t Table, s string, at int) (Token, int, api.Errno) {
	if e := check(t, s, at); e != api.OK {
		return Token{}, 0, e
	}
	if at == len(s) {
		return Token{}, 0, api.ErrNone
	}
	first, _ := utf8.DecodeRuneInString(s[at:])
	switch t.kind(first) {
	case White, Terminating, Nonterminating:
		return Token{}, 0, api.ErrArg
	}
	x, end, e := t.scan(s, at)
	if e != api.OK {
		return Token{}, 0, e
	}
	x.changeCase(t.Case)
	return x, end, api.OK
}

// scan takes the characters of a token as they are.
func (t Table) scan(s string, at int) (Token, int, api.Errno) {
	var x Token
	inBars, isNext := false, false // isNext: a Single character stands just ahead
	add := func(c rune, escaped bool) {
		x.Chars = append(x.Chars, c)
		x.Escaped = append(x.Escaped, escaped)
	}
	// escape takes a character if it is escaped, or escapes others.
	escape := func(c rune) bool {
		kind := t.kind(c)
		switch {
		case isNext:
			add(c, true)
			isNext = false
			return true
		case kind == Single:
			isNext = true
		case kind == Multiple:
			inBars = !inBars
		case inBars:
			add(c, true)
			return true
		default:
			return false
		}
		x.Escapes = true
		return true
	}
	end := len(s)
token:
	for i, c := range characters(s, at) {
		if escape(c) {
			continue
		}
		switch t.kind(c) {
		case White, Terminating:
			end = i
			break token
		case Invalid:
			return Token{}, 0, ErrInvalid
		}
		add(c, false)
	}
	if inBars || isNext {
		return Token{}, 0, api.ErrEnd
	}
	return x, end, api.OK
}

// Where returns the place of a byte of a text.
func Where(s string, at int) (Place, api.Errno) {
	if e := checkPlace(s, at); e != api.OK {
		return Place{}, e
	}
	p := Place{Line: 1, Column: 1}
	for i, c := range characters(s, 0) {
		switch {
		case i >= at:
			return p, api.OK
		case c == '\n':
			p = Place{Line: p.Line + 1, Column: 1}
		default:
			p.Column++
		}
	}
	return p, api.OK
}
