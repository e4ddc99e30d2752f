package format_test

import (
	"math/big"
	"math/rand/v2"
	"slices"
	"strconv"
	"strings"
	"testing"

	"commonform/api"
	"commonform/format"
	"commonform/forms"
	"commonform/integer"
)

func source(seed uint64) *rand.Rand { return rand.New(rand.NewPCG(seed, 13)) }

func pick[T any](r *rand.Rand, l ...T) T { return l[r.IntN(len(l))] }

// anyWhole returns an integer of any size, with many 0s.
func anyWhole(r *rand.Rand, most int) string {
	s := strconv.Itoa(r.IntN(9) + 1)
	for range r.IntN(most) {
		s += pick(r, "0", "0", "0", "1", strconv.Itoa(r.IntN(10)))
	}
	return pick(r, "", "-") + s
}

// valueOfWords reads a cardinal back.
func valueOfWords(t *testing.T, s string) *big.Int {
	small := strings.Fields("zero one two three four five six seven eight nine ten eleven twelve thirteen fourteen fifteen sixteen seventeen eighteen nineteen")
	tens := strings.Fields("- - twenty thirty forty fifty sixty seventy eighty ninety")
	names := strings.Fields("- thousand million billion trillion quadrillion quintillion sextillion")
	out, group := new(big.Int), int64(0)
	rest, isBelow := strings.CutPrefix(s, "minus ")
	for _, word := range strings.Split(strings.ReplaceAll(rest, "-", " "), " ") {
		if i := slices.Index(small, word); i >= 0 {
			group += int64(i)
		} else if i := slices.Index(tens, word); i >= 0 {
			group += int64(10 * i)
		} else if word == "hundred" {
			group *= 100
		} else if i := slices.Index(names, word); i > 0 {
			unit := new(big.Int).Exp(big.NewInt(1000), big.NewInt(int64(i)), nil)
			out.Add(out, unit.Mul(unit, big.NewInt(group)))
			group = 0
		} else {
			t.Fatalf("%q in %q", word, s)
		}
	}
	out.Add(out, big.NewInt(group))
	if isBelow {
		out.Neg(out)
	}
	return out
}

func TestP13_1Cardinal(t *testing.T) {
	for s, want := range map[string]string{
		"0": "zero", "-1": "minus one", "7": "seven", "10": "ten", "11": "eleven", "12": "twelve", "13": "thirteen", "14": "fourteen", "15": "fifteen", "16": "sixteen", "17": "seventeen", "18": "eighteen", "19": "nineteen", "20": "twenty", "21": "twenty-one", "30": "thirty", "42": "forty-two", "55": "fifty-five", "60": "sixty", "70": "seventy", "88": "eighty-eight", "99": "ninety-nine",
		"100": "one hundred", "101": "one hundred one", "110": "one hundred ten", "999": "nine hundred ninety-nine", "1000": "one thousand", "1001": "one thousand one", "1045": "one thousand forty-five", "20000": "twenty thousand", "1000001": "one million one", "1100000": "one million one hundred thousand", "-100": "minus one hundred",
		"1000000000": "one billion", "1000000000000": "one trillion", "1000000000000000": "one quadrillion", "1000000000000000000": "one quintillion", "1000000000000000000000": "one sextillion", "999000000000000000000001": "nine hundred ninety-nine sextillion one",
	} {
		if got, e := format.Cardinal(whole(s)); got != want || e != api.OK {
			t.Errorf("Cardinal(%s) = %q, %v, not %q", s, got, e, want)
		}
	}
	r := source(1)
	for range 20000 {
		s := anyWhole(r, 24)
		got, e := format.Cardinal(whole(s))
		if e != api.OK || valueOfWords(t, got).String() != s {
			t.Fatalf("Cardinal(%s) = %q, %v", s, got, e)
		}
	}
}

func TestP13_1Ordinal(t *testing.T) {
	for s, want := range map[string]string{
		"0": "zeroth", "1": "first", "2": "second", "3": "third", "4": "fourth", "5": "fifth", "6": "sixth", "7": "seventh", "8": "eighth", "9": "ninth", "10": "tenth", "11": "eleventh", "12": "twelfth", "13": "thirteenth", "19": "nineteenth", "20": "twentieth", "21": "twenty-first", "30": "thirtieth", "99": "ninety-ninth", "100": "one hundredth", "103": "one hundred third", "112": "one hundred twelfth", "1000": "one thousandth", "1000000": "one millionth", "-2": "minus second", "2000005": "two million fifth", "80": "eightieth",
	} {
		if got, e := format.Ordinal(whole(s)); got != want || e != api.OK {
			t.Errorf("Ordinal(%s) = %q, %v, not %q", s, got, e, want)
		}
	}
}

// letters is what a Roman numeral is worth, letter by letter.
func letters(s string, isOld bool) int {
	value := func(c byte) int {
		return map[byte]int{'M': 1000, 'D': 500, 'C': 100, 'L': 50, 'X': 10, 'V': 5, 'I': 1}[c]
	}
	n := 0
	for i := range len(s) {
		if i+1 < len(s) && value(s[i]) < value(s[i+1]) && !isOld {
			n -= value(s[i])
		} else {
			n += value(s[i])
		}
	}
	return n
}

func TestP13_1Roman(t *testing.T) {
	for s, want := range map[string][2]string{
		"1": {"I", "I"}, "4": {"IV", "IIII"}, "9": {"IX", "VIIII"}, "14": {"XIV", "XIIII"}, "40": {"XL", "XXXX"}, "90": {"XC", "LXXXX"}, "400": {"CD", "CCCC"}, "900": {"CM", "DCCCC"}, "1994": {"MCMXCIV", "MDCCCCLXXXXIIII"}, "3999": {"MMMCMXCIX", "MMMDCCCCLXXXXVIIII"}, "888": {"DCCCLXXXVIII", "DCCCLXXXVIII"},
	} {
		for i, old := range []bool{false, true} {
			if got, e := format.Roman(whole(s), old); got != want[i] || e != api.OK {
				t.Errorf("Roman(%s, %v) = %q, %v", s, old, got, e)
			}
		}
	}
	if got, e := format.Roman(whole("4999"), true); got != "MMMMDCCCCLXXXXVIIII" || e != api.OK {
		t.Errorf("Roman(4999) = %q, %v", got, e)
	}
}

// P13.2: Roman numerals rise by their values, and differ.
func TestP13_2Roman(t *testing.T) {
	known := map[string]bool{}
	for n := 1; n <= 4999; n++ {
		for _, old := range []bool{false, true} {
			got, e := format.Roman(whole(strconv.Itoa(n)), old)
			if n > 3999 && !old {
				if got != "" || e != api.ErrRange {
					t.Fatalf("Roman(%d) = %q, %v", n, got, e)
				}
				continue
			}
			isLong := slices.ContainsFunc([]string{"IIII", "XXXX", "CCCC", "IX", "IV", "XL", "XC", "CD", "CM"}, func(s string) bool {
				return strings.Contains(got, s) && old == (len(s) == 2)
			})
			if e != api.OK || letters(got, old) != n || isLong || known[got+strconv.FormatBool(old)] {
				t.Fatalf("Roman(%d, %v) = %q, %v", n, old, got, e)
			}
			known[got+strconv.FormatBool(old)] = true
		}
	}
}

func TestP13_1WordErrors(t *testing.T) {
	calls := map[string]func(x api.Form) (string, api.Errno){
		"Cardinal": format.Cardinal, "Ordinal": format.Ordinal,
		"Roman":     func(x api.Form) (string, api.Errno) { return format.Roman(x, false) },
		"old Roman": func(x api.Form) (string, api.Errno) { return format.Roman(x, true) },
	}
	for name, call := range calls {
		for _, x := range []api.Form{{}, whole("01"), whole("+1"), whole(""), whole(strings.Repeat("7", 20001)), leaf(api.FormSingle, "3f800000"), leaf(api.FormRatio, "1/2"), leaf(api.FormDouble, "3ff0000000000000"), text("1"), forms.Nil(), {Kind: api.FormInt, Text: "1", Home: "P"}, {Kind: api.FormInt, Text: "1", Kids: []api.Form{whole("1")}}} {
			if s, e := call(x); s != "" || e != api.ErrType {
				t.Errorf("%s(%.100v) = %q, %v", name, x, s, e)
			}
		}
		for _, s := range []string{"1" + strings.Repeat("0", 24), "-1" + strings.Repeat("0", 24), strings.Repeat("7", 20000)} {
			if got, e := call(whole(s)); got != "" || e != api.ErrRange {
				t.Errorf("%s(%.100s) = %q, %v", name, s, got, e)
			}
		}
	}
	for s, old := range map[string]bool{"0": false, "-1": false, "4000": false, "5000": true} {
		if got, e := format.Roman(whole(s), old); got != "" || e != api.ErrRange {
			t.Errorf("Roman(%s) = %q, %v", s, got, e)
		}
	}
}

// P13.2: integers are read back, without commas and pads.
func TestP13_2Integers(t *testing.T) {
	r := source(2)
	words := map[string]string{}
	for range 10000 {
		s := anyWhole(r, 30)
		x, radix := whole(s), 2+r.IntN(35)
		comma, interval, width := pick(r, ",", ".", "_"), 1+r.IntN(5), r.IntN(50)
		end := "," + strconv.Itoa(width) + ",,'" + comma + "," + strconv.Itoa(interval) + pick(r, "", ":", "@", ":@") + "R"
		for _, c := range []struct {
			control string
			radix   int
		}{{"~" + strconv.Itoa(radix) + end, radix}, {"~D", 10}, {"~:D", 10}, {"~@B", 2}, {"~O", 8}, {"~40X", 16}} {
			got, e := format.Format(c.control, []api.Form{x})
			plain := strings.TrimLeft(strings.NewReplacer(comma, "", ",", "").Replace(got), " ")
			back, f := integer.Parse(plain, c.radix)
			if value, _ := integer.Parse(s, 10); e != api.OK || f != api.OK || back.Cmp(value) != 0 {
				t.Fatalf("%q of %s = %q, %v", c.control, s, got, e)
			}
		}
		if len(strings.TrimPrefix(s, "-")) > 24 {
			continue
		}
		got, _ := format.Cardinal(x)
		if before, ok := words[got]; ok && before != s {
			t.Fatalf("Cardinal of %s and of %s is %q", before, s, got)
		}
		words[got] = s
	}
}

func TestP13_1Grouped(t *testing.T) {
	for i, x := range []struct {
		digits, comma string
		interval      int
		want          string
		e             api.Errno
	}{
		{"-1234567", ",", 3, "-1,234,567", api.OK}, {"123", ",", 3, "123", api.OK}, {"1234", ",", 3, "1,234", api.OK}, {"+123456", ".", 3, "+123.456", api.OK}, {"", ",", 1, "", api.OK}, {"-", ",", 1, "-", api.OK}, {"+-12", "_", 1, "+-_1_2", api.OK}, {"12", "", 1, "12", api.OK}, {"1234", "--", 2, "12--34", api.OK}, {"abc", ",", 1000, "abc", api.OK}, {"éa", ",", 2, "\xc3,\xa9a", api.OK},
		{"12", ",", 0, "", api.ErrArg}, {"12", ",", 1001, "", api.ErrArg}, {"", "", -1, "", api.ErrArg},
	} {
		if got, e := format.Grouped(x.digits, x.comma, x.interval); got != x.want || e != x.e {
			t.Errorf("%d: Grouped(%q, %q, %d) = %q, %v", i, x.digits, x.comma, x.interval, got, e)
		}
	}
}

func TestP13_1Justified(t *testing.T) {
	long := strings.Repeat("a", 4001)
	for i, x := range []struct {
		texts              []string
		width, step, least int
		pad                string
		front, back        bool
		want               string
		e                  api.Errno
	}{
		{[]string{"a", "b"}, 5, 4, 1, ".", true, false, "..a.b", api.OK}, {[]string{"abcd"}, 2, 3, 2, ".", false, false, "....abcd", api.OK}, {[]string{"a"}, 4, 1, 0, ".", false, true, "a...", api.OK}, {[]string{"a"}, 4, 1, 0, ".", true, true, "..a.", api.OK}, {[]string{"a"}, 4, 1, 0, ".", true, false, "...a", api.OK}, {[]string{""}, 0, 1, 0, ".", false, false, "", api.OK}, {[]string{"", "", ""}, 5, 1, 0, ".", false, false, ".....", api.OK},
		{[]string{"a", "b", "c"}, 8, 1, 0, ".", false, false, "a...b..c", api.OK}, {[]string{"a", "b", "c"}, 9, 1, 0, ".", true, true, "..a..b.c.", api.OK}, {[]string{"a", "b"}, 0, 1, 0, ".", false, false, "ab", api.OK}, {[]string{"ab", "cd"}, 3, 5, 0, ".", false, false, "ab....cd", api.OK}, {[]string{"ab", "cd"}, 3, 1, 3, ".", true, false, "...ab...cd", api.OK}, {[]string{"é"}, 4, 1, 0, ".", false, false, "..é", api.OK}, {[]string{"a"}, 1000, 1000, 1000, ".", false, false, strings.Repeat(".", 1999) + "a", api.OK},
		{nil, -1, 0, -1, "", false, false, "", api.ErrSize}, {make([]string, 101), -1, 0, -1, "", false, false, "", api.ErrSize}, {[]string{"a", long}, -1, 0, -1, "", false, false, "", api.ErrSize}, {make([]string, 100), 0, 1, 0, ".", false, false, "", api.OK}, {[]string{long[1:]}, 0, 1, 0, ".", false, false, long[1:], api.OK},
		{[]string{"a"}, -1, 1, -1, "", false, false, "", api.ErrArg}, {[]string{"a"}, -1, 1, -1, "..", false, false, "", api.ErrArg}, {[]string{"a"}, -1, 1, -1, "é", false, false, "", api.ErrArg}, {[]string{"a"}, -1, 0, -1, ".", false, false, "", api.ErrArg}, {[]string{"a"}, -1, 1001, -1, ".", false, false, "", api.ErrArg}, {[]string{"a"}, -1, 1, 0, ".", false, false, "", api.ErrRange}, {[]string{"a"}, 1001, 1, 0, ".", false, false, "", api.ErrRange}, {[]string{"a"}, 0, 1, -1, ".", false, false, "", api.ErrRange}, {[]string{"a"}, 0, 1, 1001, ".", false, false, "", api.ErrRange},
	} {
		if got, e := format.Justified(x.texts, x.width, x.step, x.least, x.pad, x.front, x.back); got != x.want || e != x.e {
			t.Errorf("%d: Justified = %.100q, %v, not %.100q, %v", i, got, e, x.want, x.e)
		}
	}
}

// P13.4: the gaps have enough pads, differ by at most one, and there are no more of them than needed.
func TestP13_4Justified(t *testing.T) {
	r := source(3)
	for range 20000 {
		var texts []string
		size := 0
		for range 1 + r.IntN(4) {
			texts = append(texts, strings.Repeat("x", 1+r.IntN(4)))
			size += len(texts[len(texts)-1])
		}
		width, step, least, front, back := r.IntN(20), 1+r.IntN(4), r.IntN(4), r.IntN(2) == 0, r.IntN(2) == 0
		got, e := format.Justified(texts, width, step, least, ".", front, back)
		var gaps []int
		rest := got
		take := func() {
			after := strings.TrimLeft(rest, ".")
			gaps = append(gaps, len(rest)-len(after))
			rest = after
		}
		if front || len(texts) == 1 && !back {
			take()
		}
		for i, s := range texts {
			after, ok := strings.CutPrefix(rest, s)
			if !ok {
				t.Fatalf("Justified(%v, %d, %d, %d, %v, %v) = %q", texts, width, step, least, front, back, got)
			}
			rest = after
			if i < len(texts)-1 || back {
				take()
			}
		}
		need := size + len(gaps)*least
		isSorted := slices.IsSortedFunc(gaps, func(a, b int) int { return b - a })
		isEnough := len(got) >= width && (len(got)-width)%step == 0 && slices.Min(gaps) >= least && slices.Max(gaps)-slices.Min(gaps) <= 1 && isSorted
		if e != api.OK || rest != "" || !isEnough || len(got) != width && len(got)-step >= need {
			t.Fatalf("Justified(%v, %d, %d, %d, %v, %v) = %q", texts, width, step, least, front, back, got)
		}
	}
}

func TestP13_1Cased(t *testing.T) {
	for i, x := range []struct {
		s         string
		colon, at bool
		want      string
	}{
		{"hello wORLD", false, false, "hello world"}, {"hello wORLD", true, false, "Hello World"}, {"hello wORLD", false, true, "Hello world"}, {"hello wORLD", true, true, "HELLO WORLD"}, {"", true, false, ""}, {"12 ab CD", false, true, "12 Ab cd"}, {"1ab-c2D'e_fG", true, false, "1Ab-C2d'E_Fg"}, {"12 3a", true, false, "12 3A"}, {"a0b9c/d:e", true, false, "A0b9c/D:E"}, {"éÉaB", true, false, "éÉAb"}, {"éaB", false, true, "éAb"}, {"@[`{AZaz", false, false, "@[`{azaz"}, {"@[`{AZaz", true, true, "@[`{AZAZ"}, {"\xffAb", false, false, "\xffab"},
	} {
		if got, e := format.Cased(x.s, x.colon, x.at); got != x.want || e != api.OK {
			t.Errorf("%d: Cased(%q, %v, %v) = %q, %v", i, x.s, x.colon, x.at, got, e)
		}
	}
	for n, e := range map[int]api.Errno{20000: api.OK, 20001: api.ErrSize} {
		got, f := format.Cased(strings.Repeat("a", n), true, true)
		if f != e || (got == strings.Repeat("A", n)) != (e == api.OK) || (got == "") != (e != api.OK) {
			t.Errorf("Cased of %d bytes: %v", n, f)
		}
	}
}

// P13.4: Cased keeps the length, changes letters alone, and changes nothing any more if it is done again.
func TestP13_4Cased(t *testing.T) {
	r := source(4)
	for range 20000 {
		s := ""
		for range r.IntN(12) {
			s += pick(r, "a", "B", "z", "Z", "1", "9", " ", "-", "é", "\xff", "@", "[", "`", "{")
		}
		colon, at := r.IntN(2) == 0, r.IntN(2) == 0
		got, e := format.Cased(s, colon, at)
		again, _ := format.Cased(got, colon, at)
		isSame := len(got) == len(s) && again == got
		for i := range len(s) {
			isLetter := s[i] >= 'a' && s[i] <= 'z' || s[i] >= 'A' && s[i] <= 'Z'
			isSame = isSame && (s[i] == got[i] || isLetter && s[i]^got[i] == ' ')
		}
		if e != api.OK || !isSame {
			t.Fatalf("Cased(%q, %v, %v) = %q, then %q", s, colon, at, got, again)
		}
	}
}
