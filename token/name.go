package token

import (
	"slices"
	"unicode/utf8"

	"commonform/api"
)

// isRight reports whether a token is right.
func (x Token) isRight() bool {
	if len(x.Escaped) != len(x.Chars) || len(x.Chars) > api.MaxSource || !x.Escapes && slices.Contains(x.Escaped, true) {
		return false
	}
	return !slices.ContainsFunc(x.Chars, func(c rune) bool { return !utf8.ValidRune(c) })
}

// Plain returns the token whose characters are those of a text, none escaped.
func Plain(s string) (Token, api.Errno) {
	if e := checkText(s); e != api.OK {
		return Token{}, e
	}
	return plain(s), api.OK
}

func plain(s string) Token {
	x := Token{Chars: []rune(s)}
	x.Escaped = make([]bool, len(x.Chars))
	return x
}

// Text returns the characters of a token.
func Text(x Token) string {
	if !x.isRight() {
		return ""
	}
	return string(x.Chars)
}

// Dots returns how many dots a token consists of; 0 if it is something else.
func Dots(x Token) int {
	isOther := func(c rune) bool { return c != '.' }
	if !x.isRight() || x.Escapes || slices.ContainsFunc(x.Chars, isOther) {
		return 0
	}
	return len(x.Chars)
}

// markers returns the indices of the package markers.
func (x Token) markers() []int {
	var out []int
	for i, c := range x.Chars {
		if c == ':' && !x.Escaped[i] {
			out = append(out, i)
		}
	}
	return out
}

// Split returns the symbol that a token names.
func Split(x Token) (Name, api.Errno) {
	if !x.isRight() {
		return Name{}, api.ErrArg
	}
	if Dots(x) > 0 {
		return Name{}, ErrDots
	}
	at, last := x.markers(), len(x.Chars)-1
	part := func(from, to int) string { return string(x.Chars[from:to]) }
	switch {
	case len(at) == 0:
		return Name{Kind: Symbol, Name: part(0, last+1)}, api.OK
	case len(at) > 2:
	case len(at) == 2:
		if at[1] == at[0]+1 && at[0] > 0 && at[1] < last {
			return Name{Internal, part(0, at[0]), part(at[1]+1, last+1)}, api.OK
		}
	case at[0] == 0:
		if last > 0 || x.Escapes {
			return Name{Kind: Keyword, Name: part(1, last+1)}, api.OK
		}
	case at[0] < last:
		return Name{External, part(0, at[0]), part(at[0]+1, last+1)}, api.OK
	}
	return Name{}, ErrMarker
}
