package forms

import (
	"strconv"
	"strings"
	"unicode/utf8"

	"commonform/api"
)

const (
	maxDimension = 2000
	maxLabel     = 999
	maxDivided   = 18 // digits of numbers whose common divisor is looked for
)

// Check returns the error of a form.
func Check(f api.Form) api.Errno {
	if tooLarge(f) {
		return api.ErrSize
	}
	for x := range walk(f) {
		if !right(x) {
			return api.ErrForm
		}
	}
	return checkLabels(f)
}

// right reports whether a node is as the table of the kinds says.
func right(f api.Form) bool {
	if !rightAlone(f.Kind, f.Text, f.Home, len(f.Kids)) {
		return false
	}
	switch f.Kind {
	case api.FormCons:
		return f.Kids[len(f.Kids)-1].Kind != api.FormCons
	case api.FormComplex:
		return rightParts(f.Kids[0].Kind, f.Kids[1].Kind, f.Kids[1].Text)
	}
	return true
}

// rightAlone looks at all of a node but the kinds of its kids.
func rightAlone(kind int, text, home string, kids int) bool {
	if !utf8.ValidString(text) || !utf8.ValidString(home) || home != "" && kind != api.FormSymbol {
		return false
	}
	switch kind {
	case api.FormComplex:
		return text == "" && kids == 2
	case api.FormCons:
		return text == "" && kids >= 2
	case api.FormVector:
		return text == ""
	case api.FormArray:
		l, ok := dimensions(text)
		return ok && kids == product(l)
	case api.FormLabel:
		return isLabel(text) && kids == 1
	}
	return kids == 0 && rightText(kind, text)
}

// rightText tells whether the text of a node without kids is right.
func rightText(kind int, text string) bool {
	switch kind {
	case api.FormSymbol, api.FormString:
		return true
	case api.FormInt:
		return isInt(text)
	case api.FormRatio:
		return isRatio(text)
	case api.FormSingle:
		return len(text) == 8 && consistsOf(text, "0123456789abcdef")
	case api.FormDouble:
		return len(text) == 16 && consistsOf(text, "0123456789abcdef")
	case api.FormChar:
		return utf8.RuneCountInString(text) == 1
	case api.FormBits:
		return consistsOf(text, "01")
	case api.FormRef:
		return isLabel(text)
	}
	return false
}

// rightParts tells by their kinds, and the text of the second one, whether two right nodes are the parts of a complex number.
func rightParts(re, im int, text string) bool {
	isRational := func(kind int) bool { return kind == api.FormInt || kind == api.FormRatio }
	if isRational(re) {
		return isRational(im) && text != "0"
	}
	return re == im && (re == api.FormSingle || re == api.FormDouble)
}

func consistsOf(s, bytes string) bool { return strings.Trim(s, bytes) == "" }

// isNatural reports whether s has the digits of a number not below 0.
func isNatural(s string) bool {
	return s != "" && consistsOf(s, "0123456789") && (s[0] != '0' || s == "0")
}

func isInt(s string) bool {
	digits := strings.TrimPrefix(s, "-")
	return isNatural(digits) && s != "-0"
}

func isLabel(s string) bool { return isNatural(s) && isAtMost(s, maxLabel) }

// isAtMost compares a natural number with a limit.
func isAtMost(s string, limit int) bool {
	n, err := strconv.Atoi(s)
	return err == nil && n <= limit
}

func isRatio(s string) bool {
	n, d, ok := strings.Cut(s, "/")
	if !ok || !isInt(n) || n == "0" || !isNatural(d) || d == "0" || d == "1" {
		return false
	}
	n = strings.TrimPrefix(n, "-")
	if len(n) > maxDivided || len(d) > maxDivided {
		return true
	}
	a, _ := strconv.ParseUint(n, 10, 64)
	b, _ := strconv.ParseUint(d, 10, 64)
	for b != 0 {
		a, b = b, a%b
	}
	return a == 1
}

// dimensions returns the numbers of an array's text, and whether it is right.
func dimensions(text string) ([]int, bool) {
	if text == "" {
		return nil, true
	}
	var out []int
	for _, s := range strings.Split(text, " ") {
		if !isNatural(s) || !isAtMost(s, maxDimension) {
			return nil, false
		}
		n, _ := strconv.Atoi(s)
		out = append(out, n)
	}
	return out, len(out) > 1 && len(out) <= MaxRank
}

// product returns how many elements an array has, but at most a number that is above all lengths of lists.
func product(dimensions []int) int {
	const beyond = 1 << 40
	n := 1
	for _, d := range dimensions {
		n = min(n*d, beyond)
	}
	return n
}

// checkLabels returns the first error of labels and references.
func checkLabels(f api.Form) api.Errno {
	known := map[string]bool{}
	e := api.OK
nodes:
	for x := range walk(f) {
		switch x.Kind {
		case api.FormLabel:
			e = labelError(x, known[x.Text])
			known[x.Text] = true
		case api.FormRef:
			if !known[x.Text] {
				e = ErrLabel
			}
		}
		if e != api.OK {
			break nodes
		}
	}
	return e
}

// labelError returns the error of a label, whose text may be known already.
func labelError(f api.Form, known bool) api.Errno {
	kid := f.Kids[0].Kind
	switch {
	case known:
		return api.ErrTwice
	case kid == api.FormLabel || kid == api.FormRef:
		return ErrLabel
	}
	return api.OK
}
