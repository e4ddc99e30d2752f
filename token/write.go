package token

import (
	"slices"
	"strings"

	"commonform/api"
)

const (
	minBase = 2
	maxBase = 36
)

func isBase(base int) bool { return base >= minBase && base <= maxBase }

// isDigit reports whether a character is a digit in a base.
func isDigit(c rune, base int) bool {
	if isLetter(c) {
		return int(toSmall(c)-'a') < base-10
	}
	return c >= '0' && c <= '9'
}

// Potential reports whether a text may be a number.
func Potential(s string, base int) (bool, api.Errno) {
	if e := checkText(s); e != api.OK {
		return false, e
	}
	if !isBase(base) {
		return false, api.ErrArg
	}
	return isPotential([]rune(s), base), api.OK
}

func isPotential(l []rune, base int) bool {
	isNumeral := func(c rune) bool { return isDigit(c, base) }
	if !slices.ContainsFunc(l, isNumeral) {
		return false
	}
	first, last := l[0], l[len(l)-1]
	if !isNumeral(first) && !strings.ContainsRune("+-.^_", first) || last == '+' || last == '-' {
		return false
	}
	wasLetter := false
	for _, c := range l {
		isMarker := isLetter(c) && !isNumeral(c)
		if isMarker && wasLetter || !isMarker && !isNumeral(c) && !strings.ContainsRune("+-/.^_", c) {
			return false
		}
		wasLetter = isMarker
	}
	return true
}

// Back returns a name with its letters as they are to be read.
func Back(t Table, name string) (string, api.Errno) {
	if e := check(t, name, 0); e != api.OK {
		return "", e
	}
	return t.back(name), api.OK
}

func (t Table) back(name string) string {
	x := plain(name)
	x.changeCase(reverse(t.Case))
	return string(x.Chars)
}

// Escaped returns the text of which a token with given characters is read.
func Escaped(t Table, name string, base int) (string, api.Errno) {
	if e := check(t, name, 0); e != api.OK {
		return "", e
	}
	if !isBase(base) {
		return "", api.ErrArg
	}
	if s := t.back(name); t.isBare(s, name, base) {
		return s, api.OK
	}
	return t.barred(name)
}

// isBare reports whether a text is read as a name, and as nothing else, without an escape.
func (t Table) isBare(s, name string, base int) bool {
	x, _, e := Next(t, s, 0)
	if e != api.OK || string(x.Chars) != name { // which has as many characters: so the token ends at the end, and none is an escape
		return false
	}
	return len(x.markers()) == 0 && Dots(x) == 0 && !isPotential(x.Chars, base)
}

// barred returns a name between bars; ErrNone if the readtable has no character that is needed.
func (t Table) barred(name string) (string, api.Errno) {
	bar, ok := t.least(Multiple, '|')
	if !ok {
		return "", api.ErrNone
	}
	escape, hasEscape := t.least(Single, '\\')
	var out strings.Builder
	out.WriteRune(bar)
	for _, c := range name {
		if kind := t.kind(c); kind == Single || kind == Multiple {
			if !hasEscape {
				return "", api.ErrNone
			}
			out.WriteRune(escape)
		}
		out.WriteRune(c)
	}
	out.WriteRune(bar)
	return out.String(), api.OK
}

// Written returns the text of which a symbol is read.
func Written(t Table, n Name, base int) (string, api.Errno) {
	if e := Check(t); e != api.OK {
		return "", e
	}
	if !n.isRight() {
		return "", api.ErrArg
	}
	escaped := func(name string) (string, api.Errno) { return Escaped(t, name, base) }
	s, e := n.text(escaped)
	if e != api.OK {
		return "", e
	}
	if n.Kind != Symbol && !t.hasMarker(n.Kind) {
		return "", api.ErrNone
	}
	if t.isRead(s, n) {
		return s, api.OK
	}
	return n.text(t.barred)
}

// isRight reports whether a name has the parts that its kind needs, and no others.
func (n Name) isRight() bool {
	switch n.Kind {
	case Symbol, Keyword:
		return n.Package == ""
	case External, Internal:
		return n.Package != "" && n.Name != ""
	}
	return false
}

// text returns a symbol's text, whose parts are written by a function.
func (n Name) text(write func(string) (string, api.Errno)) (string, api.Errno) {
	pack, e := "", api.OK
	switch n.Kind {
	case Keyword:
		pack = ":"
	case External, Internal:
		pack, e = write(n.Package)
		pack += strings.Repeat(":", n.Kind-External+1)
	}
	if e != api.OK {
		return "", e
	}
	name, e := write(n.Name)
	if e != api.OK {
		return "", e
	}
	return pack + name, api.OK
}

// hasMarker reports whether a symbol of a kind can have its marker in a readtable.
func (t Table) hasMarker(kind int) bool {
	switch t.kind(':') {
	case Constituent:
		return true
	case Nonterminating:
		return kind != Keyword
	}
	return false
}

// isRead reports whether a text is read as a symbol.
func (t Table) isRead(s string, n Name) bool {
	x, _, e := Next(t, s, 0)
	if e != api.OK {
		return false
	}
	got, e := Split(x)
	return e == api.OK && got == n
}
