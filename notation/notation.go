// Package notation has what the layers share that write forms: which lists are written with characters in front of them, the dimensions of arrays, and which forms are right.
package notation

import (
	"strconv"
	"strings"

	"commonform/api"
	"commonform/forms"
)

const (
	commonLisp = "COMMON-LISP"
	readerHome = "READER"
)

// IsRight reports whether a form has no error of layer 1.
func IsRight(f api.Form) bool { return forms.Check(f) == api.OK }

// Abbreviation returns the characters in front of a list that may be abbreviated in a depth of backquotes, and how the depth changes behind them; no characters for all other forms.
func Abbreviation(f api.Form, depth int) (prefix string, change int) {
	if f.Kind != api.FormCons || len(f.Kids) != 3 || !forms.IsNil(f.Kids[2]) {
		return "", 0
	}
	switch first := f.Kids[0]; {
	case forms.Is(first, commonLisp, "QUOTE"):
		return "'", 0
	case forms.Is(first, commonLisp, "FUNCTION"):
		return "#'", 0
	case forms.Is(first, readerHome, "BACKQUOTE"):
		return "`", 1
	case depth > 0 && forms.Is(first, readerHome, "COMMA"):
		return ",", -1
	case depth > 0 && forms.Is(first, readerHome, "SPLICE"):
		return ",@", -1
	}
	return "", 0
}

// Dimensions returns the dimensions that the text of an array has. (Layer 1 does not tell them for a part of a form with references.)
func Dimensions(text string) []int {
	var out []int
	for _, s := range strings.Fields(text) {
		d, _ := strconv.Atoi(s)
		out = append(out, d)
	}
	return out
}
