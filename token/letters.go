package token

// difference is what lies between a small letter and the great one.
const difference = 'a' - 'A'

func isSmall(c rune) bool { return c >= 'a' && c <= 'z' }

func isGreat(c rune) bool { return c >= 'A' && c <= 'Z' }

func isLetter(c rune) bool { return isSmall(c) || isGreat(c) }

func toSmall(c rune) rune {
	if isGreat(c) {
		return c + difference
	}
	return c
}

func toGreat(c rune) rune {
	if isSmall(c) {
		return c - difference
	}
	return c
}

// changeCase changes the letters that were not escaped as a readtable with this case reads them.
func (x Token) changeCase(mode int) {
	change := changeOf(mode, func(is func(rune) bool) bool {
		for i, c := range x.Chars {
			if !x.Escaped[i] && is(c) {
				return true
			}
		}
		return false
	})
	for i, c := range x.Chars {
		if !x.Escaped[i] {
			x.Chars[i] = change(c)
		}
	}
}

// changeOf returns what happens to each letter in a case; some tells whether some of the letters is such a one.
func changeOf(mode int, some func(func(rune) bool) bool) func(rune) rune {
	keep := func(c rune) rune { return c }
	switch mode {
	case Upcase:
		return toGreat
	case Downcase:
		return toSmall
	case Preserve:
		return keep
	}
	switch {
	case !some(isGreat):
		return toGreat
	case !some(isSmall):
		return toSmall
	}
	return keep
}

// reverse returns the case that changes letters back.
func reverse(mode int) int {
	switch mode {
	case Upcase:
		return Downcase
	case Downcase:
		return Upcase
	}
	return mode
}
