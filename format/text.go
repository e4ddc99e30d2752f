package format

import (
	"strings"

	"commonform/api"
)

const (
	maxRange = 1000 // of a width and the like
	maxTexts = 100
)

// isIn reports whether n is from least to maxRange.
func isIn(n, least int) bool { return n >= least && n <= maxRange }

// Grouped returns digits with commas between groups of them.
func Grouped(digits string, comma string, interval int) (string, api.Errno) {
	if !isIn(interval, 1) {
		return "", api.ErrArg
	}
	sign, rest := cutSign(digits)
	var out strings.Builder
	out.WriteString(sign)
	for i := range len(rest) {
		if i > 0 && (len(rest)-i)%interval == 0 {
			out.WriteString(comma)
		}
		out.WriteByte(rest[i])
	}
	return out.String(), api.OK
}

// Justified returns texts that are spread over a width.
func Justified(texts []string, width, step, least int, pad string, front, back bool) (string, api.Errno) {
	isWrongSize := len(texts) == 0 || len(texts) > maxTexts
	size := 0
	for _, s := range texts {
		isWrongSize = isWrongSize || len(s) > api.MaxSource
		size += len(s)
	}
	switch {
	case isWrongSize:
		return "", api.ErrSize
	case len(pad) != 1 || !isIn(step, 1):
		return "", api.ErrArg
	case !isIn(width, 0) || !isIn(least, 0):
		return "", api.ErrRange
	}
	gaps := len(texts) - 1
	if front || gaps == 0 && !back {
		front = true
		gaps++
	}
	if back {
		gaps++
	}
	need := size + gaps*least
	pads := gaps * least
	if missing := width - need; missing > 0 {
		pads += missing
	} else if over := (need - width) % step; over > 0 {
		pads += step - over
	}
	return spread(texts, pads, gaps, pad, front), api.OK
}

// spread returns texts with pads in gaps, of which the first one may be ahead of all texts; those that are left over stand in the first gaps, one each.
func spread(texts []string, pads, gaps int, pad string, front bool) string {
	var out strings.Builder
	place := 0
	gap := func() {
		if place == gaps {
			return
		}
		n := pads / gaps
		if place < pads%gaps {
			n++
		}
		out.WriteString(strings.Repeat(pad, n))
		place++
	}
	if front {
		gap()
	}
	for _, s := range texts {
		out.WriteString(s)
		gap()
	}
	return out.String()
}

func upper(c byte) byte {
	if c >= 'a' && c <= 'z' {
		return c - 'a' + 'A'
	}
	return c
}

func lower(c byte) byte {
	if c >= 'A' && c <= 'Z' {
		return c - 'A' + 'a'
	}
	return c
}

func isLetter(c byte) bool { return upper(c) >= 'A' && upper(c) <= 'Z' }

func isDigit(c byte) bool { return c >= '0' && c <= '9' }

// Cased returns a text with letters changed.
func Cased(s string, colon, at bool) (string, api.Errno) {
	if len(s) > api.MaxOutput {
		return "", api.ErrSize
	}
	out := []byte(s)
	isFirst := true // in the text, or in a word
	for i, c := range out {
		switch {
		case !isLetter(c):
			isFirst = isFirst || colon && !isDigit(c)
			continue
		case colon && at || isFirst && (colon || at):
			out[i] = upper(c)
		default:
			out[i] = lower(c)
		}
		isFirst = false
	}
	return string(out), api.OK
}
