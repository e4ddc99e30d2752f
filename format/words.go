package format

import (
	"strconv"
	"strings"

	"commonform/api"
	"commonform/integer"
	"commonform/number"
)

const (
	maxGroups = 8 // of three digits
	maxRoman  = 3999
	maxOld    = 4999
)

var ones = [...]string{"zero", "one", "two", "three", "four", "five", "six", "seven", "eight", "nine", "ten", "eleven", "twelve", "thirteen", "fourteen", "fifteen", "sixteen", "seventeen", "eighteen", "nineteen"}

var tens = [...]string{2: "twenty", "thirty", "forty", "fifty", "sixty", "seventy", "eighty", "ninety"}

// groups has the names of groups of three digits, from the last one on.
var groups = [maxGroups]string{"", " thousand", " million", " billion", " trillion", " quadrillion", " quintillion", " sextillion"}

// numeral is a Roman one; a short one stands for several of another one.
type numeral struct {
	value   int
	text    string
	isShort bool
}

var numerals = [...]numeral{
	{1000, "M", false}, {900, "CM", true}, {500, "D", false}, {400, "CD", true},
	{100, "C", false}, {90, "XC", true}, {50, "L", false}, {40, "XL", true},
	{10, "X", false}, {9, "IX", true}, {5, "V", false}, {4, "IV", true}, {1, "I", false},
}

// wholeOf returns the value of an integer, or ErrType.
func wholeOf(x api.Form) (integer.Int, api.Errno) {
	if x.Kind != api.FormInt || number.Check(x) != api.OK {
		return integer.Int{}, api.ErrType
	}
	n, _ := integer.Parse(x.Text, 10)
	return n, api.OK
}

// Cardinal returns an integer in English words.
func Cardinal(x api.Form) (string, api.Errno) {
	n, e := wholeOf(x)
	if e != api.OK {
		return "", e
	}
	digits, _ := n.Abs().Text(10)
	if len(digits) > 3*maxGroups {
		return "", api.ErrRange
	}
	s := words(digits)
	if n.Sign() < 0 {
		s = "minus " + s
	}
	return s, api.OK
}

// words returns a number not below 0, whose digits are given, in English.
func words(digits string) string {
	var l []string
	for digits != "" {
		size := (len(digits)-1)%3 + 1
		n, _ := strconv.Atoi(digits[:size])
		digits = digits[size:]
		if n > 0 {
			l = append(l, group(n)+groups[len(digits)/3])
		}
	}
	if len(l) == 0 {
		return ones[0]
	}
	return strings.Join(l, " ")
}

// group returns a number from 1 to 999 in English.
func group(n int) string {
	var l []string
	if n >= 100 {
		l = append(l, ones[n/100]+" hundred")
		n %= 100
	}
	switch {
	case n >= 20 && n%10 == 0:
		l = append(l, tens[n/10])
	case n >= 20:
		l = append(l, tens[n/10]+"-"+ones[n%10])
	case n > 0:
		l = append(l, ones[n])
	}
	return strings.Join(l, " ")
}

// Ordinal returns an integer as an English ordinal number.
func Ordinal(x api.Form) (string, api.Errno) {
	s, e := Cardinal(x)
	if e != api.OK {
		return "", e
	}
	last := strings.LastIndexAny(s, " -") + 1
	return s[:last] + ordinal(s[last:]), api.OK
}

// ordinal returns the ordinal of a word.
func ordinal(word string) string {
	switch word {
	case "one":
		return "first"
	case "two":
		return "second"
	case "three":
		return "third"
	case "five":
		return "fifth"
	case "eight":
		return "eighth"
	case "nine":
		return "ninth"
	case "twelve":
		return "twelfth"
	}
	if stem, ok := strings.CutSuffix(word, "y"); ok {
		return stem + "ieth"
	}
	return word + "th"
}

// Roman returns an integer in Roman numerals.
func Roman(x api.Form, old bool) (string, api.Errno) {
	v, e := wholeOf(x)
	if e != api.OK {
		return "", e
	}
	most := int64(maxRoman)
	if old {
		most = maxOld
	}
	n, ok := v.Int64()
	if !ok || n < 1 || n > most {
		return "", api.ErrRange
	}
	var out strings.Builder
	rest := int(n)
	for _, x := range numerals {
		if x.isShort && old {
			continue
		}
		out.WriteString(strings.Repeat(x.text, rest/x.value))
		rest %= x.value
	}
	return out.String(), api.OK
}
