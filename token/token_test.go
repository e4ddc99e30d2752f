package token_test

import (
	"math/rand/v2"
	"regexp"
	"slices"
	"strings"
	"testing"
	"unicode/utf8"

	"commonform/api"
	"commonform/token"
)

const (
	runs      = 3000
	allKinds  = token.Multiple + 1
	allCases  = token.Invert + 1
	someChars = "aZbq019.:+-/_^#|\\ \n\t\"'(),;`$@é漢\x01\x7f\U0010ffff"
)

func source(seed uint64) *rand.Rand { return rand.New(rand.NewPCG(seed, 6)) }

func randomText(r *rand.Rand, chars string, most int) string {
	l := []rune(chars)
	var out strings.Builder
	for range r.IntN(most + 1) {
		out.WriteRune(l[r.IntN(len(l))])
	}
	return out.String()
}

// randomTable returns a right readtable, which is often the standard one but for its case.
func randomTable(r *rand.Rand) token.Table {
	t := token.Table{Case: r.IntN(allCases)}
	if r.IntN(3) == 0 {
		return t
	}
	l := []rune(someChars)
	slices.Sort(l)
	for _, c := range l {
		if kind := r.IntN(allKinds); r.IntN(5) == 0 && kind != token.Standard(c) {
			t.Entries = append(t.Entries, token.Entry{Char: c, Kind: kind})
		}
	}
	return t
}

func kindOf(t token.Table, c rune) int {
	for _, x := range t.Entries {
		if x.Char == c {
			return x.Kind
		}
	}
	return token.Standard(c)
}

func sameTable(a, b token.Table) bool {
	return a.Case == b.Case && slices.Equal(a.Entries, b.Entries)
}

func sameToken(a, b token.Token) bool {
	return a.Escapes == b.Escapes && slices.Equal(a.Chars, b.Chars) && slices.Equal(a.Escaped, b.Escaped)
}

func right(chars string, escapes bool) token.Token {
	l := []rune(chars)
	return token.Token{Chars: l, Escaped: make([]bool, len(l)), Escapes: escapes}
}

// wrongTables have each error of a readtable.
func wrongTables() map[string]struct {
	t token.Table
	e api.Errno
} {
	type row = struct {
		t token.Table
		e api.Errno
	}
	return map[string]row{
		"entries":     {token.Table{Entries: make([]token.Entry, 65), Case: 9}, api.ErrSize},
		"case":        {token.Table{Case: 4, Entries: []token.Entry{{Char: 'b', Kind: 1}, {Char: 'a', Kind: 1}}}, api.ErrArg},
		"low case":    {token.Table{Case: -1}, api.ErrArg},
		"surrogate":   {token.Table{Entries: []token.Entry{{Char: 0xd800, Kind: token.White}}}, api.ErrArg},
		"negative":    {token.Table{Entries: []token.Entry{{Char: -1, Kind: token.White}}}, api.ErrArg},
		"beyond":      {token.Table{Entries: []token.Entry{{Char: 0x110000, Kind: token.White}}}, api.ErrArg},
		"kind":        {token.Table{Entries: []token.Entry{{Char: 'a', Kind: 7}}}, api.ErrArg},
		"low kind":    {token.Table{Entries: []token.Entry{{Char: 'a', Kind: -1}}}, api.ErrArg},
		"standard":    {token.Table{Entries: []token.Entry{{Char: '#', Kind: token.Nonterminating}}}, api.ErrArg},
		"order":       {token.Table{Entries: []token.Entry{{Char: 'b', Kind: 1}, {Char: 'a', Kind: 1}, {Char: 'a', Kind: 9}}}, api.ErrOrder},
		"same":        {token.Table{Entries: []token.Entry{{Char: 'a', Kind: 1}, {Char: 'a', Kind: 1}}}, api.ErrOrder},
		"kind, order": {token.Table{Entries: []token.Entry{{Char: 'b', Kind: 1}, {Char: 'a', Kind: 8}}}, api.ErrArg},
	}
}

func TestP6_1Standard(t *testing.T) {
	lists := map[int]string{
		token.White:          "\t\n\f\r ",
		token.Terminating:    "\"'(),;`",
		token.Nonterminating: "#",
		token.Single:         "\\",
		token.Multiple:       "|",
	}
	for c := rune(-5); c <= 0x110005; c++ {
		want := token.Constituent
		if c < 32 || c == 127 || c > utf8.MaxRune || c >= 0xd800 && c <= 0xdfff {
			want = token.Invalid
		}
		for kind, l := range lists {
			if slices.Contains([]rune(l), c) {
				want = kind
			}
		}
		if got := token.Standard(c); got != want {
			t.Fatalf("Standard(%d) = %d, not %d", c, got, want)
		}
	}
}

func TestP6_1Tables(t *testing.T) {
	for name, x := range wrongTables() {
		if e := token.Check(x.t); e != x.e {
			t.Errorf("%s: Check = %v, not %v", name, e, x.e)
		}
		if kind, e := token.Kind(x.t, 'a'); kind != 0 || e != x.e {
			t.Errorf("%s: Kind = %v, %v", name, kind, e)
		}
		if got, e := token.Set(x.t, 'a', token.White); !sameTable(got, token.Table{}) || e != x.e {
			t.Errorf("%s: Set = %v, %v", name, got, e)
		}
	}
	full := token.Table{}
	for i := range token.MaxEntries {
		full.Entries = append(full.Entries, token.Entry{Char: rune('a' + 2*i), Kind: token.Single})
	}
	if e := token.Check(full); e != api.OK {
		t.Errorf("Check of 64 entries = %v", e)
	}
	for _, x := range []struct {
		c    rune
		kind int
		e    api.Errno
	}{
		{'b', token.White, api.ErrFull}, {'a', token.White, api.OK}, {'a', token.Constituent, api.OK}, {'b', token.Constituent, api.OK},
		{'b', 7, api.ErrArg}, {'b', -1, api.ErrArg}, {0xdfff, token.White, api.ErrArg}, {-1, token.White, api.ErrArg},
	} {
		got, e := token.Set(full, x.c, x.kind)
		if e != x.e || e != api.OK && !sameTable(got, token.Table{}) {
			t.Errorf("Set(%q, %d) = %v, %v, not %v", x.c, x.kind, got, e, x.e)
		}
	}
	if kind, e := token.Kind(full, 'c'); kind != token.Single || e != api.OK {
		t.Errorf("Kind = %d, %v", kind, e)
	}
	if kind, e := token.Kind(full, 0xd900); kind != 0 || e != api.ErrArg {
		t.Errorf("Kind of no character: %d, %v", kind, e)
	}
	null := token.Table{Entries: []token.Entry{{Char: 0, Kind: token.White}}}
	if kind, e := token.Kind(null, 0); kind != token.White || e != api.OK {
		t.Errorf("Kind of the character 0: %d, %v", kind, e)
	}
}

func TestP6_2Readtables(t *testing.T) {
	r := source(1)
	l := []rune(someChars)
	for range runs {
		x := randomTable(r)
		before := slices.Clone(x.Entries)
		c, kind := l[r.IntN(len(l))], r.IntN(allKinds)
		y, e := token.Set(x, c, kind)
		if e != api.OK || token.Check(y) != api.OK {
			t.Fatalf("Set(%v, %q, %d) = %v, %v", x, c, kind, y, e)
		}
		for _, d := range l {
			want := kindOf(x, d)
			if d == c {
				want = kind
			}
			if got, e := token.Kind(y, d); got != want || e != api.OK {
				t.Fatalf("Kind(%v, %q) = %d, %v, not %d", y, d, got, e, want)
			}
		}
		if z, e := token.Set(y, c, kindOf(x, c)); e != api.OK || !sameTable(z, x) {
			t.Fatalf("Set back: %v, not %v", z, x)
		}
		d, other := l[r.IntN(len(l))], r.IntN(allKinds)
		if d != c {
			a, _ := token.Set(y, d, other)
			b, _ := token.Set(x, d, other)
			b, _ = token.Set(b, c, kind)
			if !sameTable(a, b) {
				t.Fatalf("the order matters: %v, %v", a, b)
			}
		}
		for i := range y.Entries {
			y.Entries[i].Kind = 99
		}
		if !slices.Equal(before, x.Entries) {
			t.Fatal("Set shares memory with its argument")
		}
	}
}

// slowNext is the description of Next, character by character, and of cases.
func slowNext(t token.Table, l []rune) (x token.Token, taken int, e api.Errno) {
	if len(l) == 0 {
		return token.Token{}, 0, api.ErrNone
	}
	switch kindOf(t, l[0]) {
	case token.White, token.Terminating, token.Nonterminating:
		return token.Token{}, 0, api.ErrArg
	}
	add := func(c rune, escaped bool) {
		x.Chars, x.Escaped = append(x.Chars, c), append(x.Escaped, escaped)
	}
	i := 0
	for i < len(l) && kindOf(t, l[i]) != token.White && kindOf(t, l[i]) != token.Terminating {
		switch kindOf(t, l[i]) {
		case token.Invalid:
			return token.Token{}, 0, token.ErrInvalid
		case token.Single:
			x.Escapes = true
			i++
			if i == len(l) {
				return token.Token{}, 0, api.ErrEnd
			}
			add(l[i], true)
		case token.Multiple:
			x.Escapes = true
			for i++; ; i++ {
				if i < len(l) && kindOf(t, l[i]) == token.Single {
					i++
				} else if i < len(l) && kindOf(t, l[i]) == token.Multiple {
					break
				}
				if i >= len(l) {
					return token.Token{}, 0, api.ErrEnd
				}
				add(l[i], true)
			}
		default:
			add(l[i], false)
		}
		i++
	}
	free := ""
	for k, c := range x.Chars {
		if !x.Escaped[k] {
			free += string(c)
		}
	}
	small, great := regexp.MustCompile("[a-z]").MatchString(free), regexp.MustCompile("[A-Z]").MatchString(free)
	for k, c := range x.Chars {
		isSmall, isGreat := c >= 'a' && c <= 'z', c >= 'A' && c <= 'Z'
		switch {
		case x.Escaped[k]:
		case isSmall && (t.Case == token.Upcase || t.Case == token.Invert && !great):
			x.Chars[k] = c - 32
		case isGreat && (t.Case == token.Downcase || t.Case == token.Invert && !small):
			x.Chars[k] = c + 32
		}
	}
	return x, i, api.OK
}

func TestP6_1Next(t *testing.T) {
	r := source(2)
	for range 10 * runs {
		x, s := randomTable(r), randomText(r, someChars, 12)
		ahead := randomText(r, someChars, 4)
		want, taken, e := slowNext(x, []rune(s))
		got, end, f := token.Next(x, ahead+s, len(ahead))
		wantEnd := 0
		if e == api.OK {
			wantEnd = len(ahead) + len(string([]rune(s)[:taken]))
		}
		if e != f || end != wantEnd || !sameToken(got, want) {
			t.Fatalf("Next(%v, %q, %d) = %v, %d, %v, not %v, %d, %v", x, ahead+s, len(ahead), got, end, f, want, wantEnd, e)
		}
	}
}

func TestP6_1NextErrors(t *testing.T) {
	long := strings.Repeat("a", api.MaxSource+1)
	for _, x := range []struct {
		s  string
		at int
		e  api.Errno
	}{
		{"", 0, api.ErrNone}, {"ab", 2, api.ErrNone}, {"ab", 3, api.ErrArg}, {"ab", -1, api.ErrArg}, {"é", 1, api.ErrArg},
		{long, -1, api.ErrSize}, {long[1:], 0, api.OK}, {"\xff", 9, api.ErrForm}, {"a\xffb", 0, api.ErrForm}, {"\xed\xa0\x80", 0, api.ErrForm},
		{"#", 0, api.ErrArg}, {"(", 0, api.ErrArg}, {" ", 0, api.ErrArg}, {"\x01", 0, token.ErrInvalid}, {"|\x01|", 0, api.OK},
		{"|a\\|", 0, api.ErrEnd}, {"|a\\", 0, api.ErrEnd}, {"\\", 0, api.ErrEnd}, {"\\\x01", 0, api.OK}, {"a\x01|", 0, token.ErrInvalid},
	} {
		if _, _, e := token.Next(token.Table{}, x.s, x.at); e != x.e {
			t.Errorf("Next(%.9q, %d): %v, not %v", x.s, x.at, e, x.e)
		}
	}
	for name, x := range wrongTables() {
		if got, end, e := token.Next(x.t, long, -1); !sameToken(got, token.Token{}) || end != 0 || e != x.e {
			t.Errorf("%s: Next = %v, %d, %v", name, got, end, e)
		}
		if end, e := token.Skip(x.t, long, -1); end != 0 || e != x.e {
			t.Errorf("%s: Skip = %d, %v", name, end, e)
		}
	}
}

func TestP6_1Skip(t *testing.T) {
	r := source(3)
	for range runs {
		x, s := randomTable(r), randomText(r, someChars+"      ", 9)
		at := 0
		for i := range s {
			if r.IntN(4) == 0 {
				at = i
			}
		}
		want := at
		for _, c := range s[at:] {
			if kindOf(x, c) != token.White {
				break
			}
			want += len(string(c))
		}
		if got, e := token.Skip(x, s, at); got != want || e != api.OK {
			t.Fatalf("Skip(%v, %q, %d) = %d, %v, not %d", x, s, at, got, e, want)
		}
	}
	for _, x := range []struct {
		s  string
		at int
		e  api.Errno
	}{{"a", 2, api.ErrArg}, {"é", 1, api.ErrArg}, {"\xff", 0, api.ErrForm}, {strings.Repeat(" ", 4001), 0, api.ErrSize}} {
		if got, e := token.Skip(token.Table{}, x.s, x.at); got != 0 || e != x.e {
			t.Errorf("Skip(%.9q, %d) = %d, %v", x.s, x.at, got, e)
		}
	}
}

func TestP6_3Ends(t *testing.T) {
	r := source(4)
	for range 3 * runs {
		x, s := randomTable(r), randomText(r, someChars, 8)
		a, end, e := token.Next(x, s, 0)
		if e != api.OK {
			continue
		}
		if b, to, e := token.Next(x, s[:end], 0); e != api.OK || to != end || !sameToken(a, b) {
			t.Fatalf("%q alone: %v, %d, %v, not %v", s[:end], b, to, e, a)
		}
		for _, c := range someChars {
			if kindOf(x, c) != token.White {
				continue
			}
			more := "xyz" + s[:end] + string(c) + randomText(r, someChars, 5)
			if b, to, e := token.Next(x, more, 3); e != api.OK || to != end+3 || !sameToken(a, b) {
				t.Fatalf("%q: %v, %d, %v, not %v", more, b, to, e, a)
			}
		}
		if !a.Escapes && len(a.Chars) != utf8.RuneCountInString(s[:end]) {
			t.Fatalf("%q has %d characters, not %d", s[:end], len(a.Chars), end)
		}
	}
}

func TestP6_4Case(t *testing.T) {
	r := source(5)
	for range 3 * runs {
		x, s := randomTable(r), randomText(r, someChars+"abcABC", 8)
		k, end, e := token.Next(x, s, 0)
		if e != api.OK {
			continue
		}
		free := ""
		for i, c := range k.Chars {
			if !k.Escaped[i] {
				free += string(c)
			}
		}
		switch {
		case x.Case == token.Preserve && !k.Escapes && token.Text(k) != s[:end]:
			t.Fatalf("Preserve: %q of %q", token.Text(k), s)
		case x.Case == token.Upcase && strings.ContainsAny(free, "abcdefghijklmnopqrstuvwxyz"):
			t.Fatalf("Upcase: %q of %q", free, s)
		case x.Case == token.Downcase && strings.ContainsAny(free, "ABCDEFGHIJKLMNOPQRSTUVWXYZ"):
			t.Fatalf("Downcase: %q of %q", free, s)
		}
	}
	for _, s := range []string{"foo", "FOO", "Foo", "f1", "F1", "12", "", "fÉ", "Fé", "É"} {
		inverted := token.Table{Case: token.Invert}
		back, _ := token.Back(inverted, s)
		if k, _, e := token.Next(inverted, back, 0); s != "" && (e != api.OK || token.Text(k) != s) {
			t.Errorf("Invert: %q back is %q, which is read as %q, %v", s, back, token.Text(k), e)
		}
	}
}

func TestP6_1Back(t *testing.T) {
	for _, x := range []struct {
		mode     int
		in, want string
	}{
		{token.Upcase, "aBÉé1", "abÉé1"}, {token.Downcase, "aBÉé1", "ABÉé1"}, {token.Preserve, "aB", "aB"},
		{token.Invert, "aB", "aB"}, {token.Invert, "ab1", "AB1"}, {token.Invert, "AB1", "ab1"}, {token.Invert, "", ""},
		{token.Upcase, "AZ@[", "az@["}, {token.Downcase, "az`{", "AZ`{"},
	} {
		if got, e := token.Back(token.Table{Case: x.mode}, x.in); got != x.want || e != api.OK {
			t.Errorf("Back(%d, %q) = %q, %v, not %q", x.mode, x.in, got, e, x.want)
		}
	}
	for _, x := range []struct {
		t    token.Table
		name string
		e    api.Errno
	}{{token.Table{Case: 5}, "\xff", api.ErrArg}, {token.Table{}, strings.Repeat("\xff", 4001), api.ErrSize}, {token.Table{}, "\xff", api.ErrForm}} {
		if s, e := token.Back(x.t, x.name); s != "" || e != x.e {
			t.Errorf("Back = %q, %v, not %v", s, e, x.e)
		}
	}
}

func TestP6_1Plain(t *testing.T) {
	k, e := token.Plain("a:É|")
	if e != api.OK || !sameToken(k, right("a:É|", false)) {
		t.Errorf("Plain = %v, %v", k, e)
	}
	for s, want := range map[string]api.Errno{"\xff": api.ErrForm, strings.Repeat("\xff", 4001): api.ErrSize} {
		if k, e := token.Plain(s); e != want || !sameToken(k, token.Token{}) {
			t.Errorf("Plain = %v, %v", k, e)
		}
	}
}

func TestP6_1Dots(t *testing.T) {
	escaped := right("..", true)
	escaped.Escaped[0] = true
	for want, l := range map[int][]token.Token{
		0: {right("", false), right("..", true), escaped, right(".a", false), right("..:", false), {Chars: []rune{'.'}}, {Chars: []rune{'.'}, Escaped: []bool{true}}},
		1: {right(".", false)}, 3: {right("...", false)}, api.MaxSource: {right(strings.Repeat(".", api.MaxSource), false)},
	} {
		for _, x := range l {
			if got := token.Dots(x); got != want {
				t.Errorf("Dots(%v) = %d, not %d", x, got, want)
			}
		}
	}
}

// wrongTokens are tokens that are not right.
func wrongTokens() []token.Token {
	return []token.Token{
		{Chars: []rune{'a'}}, {Escaped: []bool{false}}, {Chars: []rune{'a'}, Escaped: []bool{true}}, right(strings.Repeat("a", 4001), false),
		{Chars: []rune{0xd800}, Escaped: []bool{false}}, {Chars: []rune{-1}, Escaped: []bool{false}}, {Chars: []rune{0x110000}, Escaped: []bool{false}, Escapes: true},
	}
}

func TestP6_1Split(t *testing.T) {
	for _, x := range wrongTokens() {
		if n, e := token.Split(x); n != (token.Name{}) || e != api.ErrArg || token.Text(x) != "" {
			t.Errorf("Split of a wrong token = %v, %v, %q", n, e, token.Text(x))
		}
	}
	long := right(strings.Repeat("é", 4000), false)
	if s := token.Text(long); len(s) != 8000 {
		t.Errorf("Text has %d bytes", len(s))
	}
	for _, x := range []struct {
		text string
		want token.Name
		e    api.Errno
	}{
		{"a", token.Name{Kind: token.Symbol, Name: "a"}, api.OK},
		{"", token.Name{Kind: token.Symbol}, api.OK},
		{":a", token.Name{Kind: token.Keyword, Name: "a"}, api.OK},
		{"a:b", token.Name{Kind: token.External, Package: "a", Name: "b"}, api.OK},
		{"a::b", token.Name{Kind: token.Internal, Package: "a", Name: "b"}, api.OK},
		{"...", token.Name{}, token.ErrDots}, {".", token.Name{}, token.ErrDots}, {".:", token.Name{}, token.ErrMarker}, {":", token.Name{}, token.ErrMarker}, {"::", token.Name{}, token.ErrMarker},
		{"::a", token.Name{}, token.ErrMarker}, {"a::", token.Name{}, token.ErrMarker}, {"a:", token.Name{}, token.ErrMarker},
		{"a:b:c", token.Name{}, token.ErrMarker}, {":a:", token.Name{}, token.ErrMarker}, {"a:::b", token.Name{}, token.ErrMarker}, {"a:b::c", token.Name{}, token.ErrMarker},
	} {
		k, _ := token.Plain(x.text)
		if n, e := token.Split(k); n != x.want || e != x.e {
			t.Errorf("Split of %q = %v, %v, not %v, %v", x.text, n, e, x.want, x.e)
		}
	}
	for text, want := range map[string]api.Errno{":||": api.OK, "||:": api.OK, "a:||": token.ErrMarker, "||:a": api.OK, "||a:||": token.ErrMarker, "a::||": token.ErrMarker} {
		k, _, _ := token.Next(token.Table{}, text, 0)
		if _, e := token.Split(k); e != want {
			t.Errorf("Split of %q: %v, not %v", text, e, want)
		}
	}
}

func TestP6_6Markers(t *testing.T) {
	r := source(6)
	for range 3 * runs {
		s := randomText(r, "ab:::|\\.", 7)
		k, _, e := token.Next(token.Table{Case: token.Preserve}, s, 0)
		if e != api.OK {
			continue
		}
		markers := 0
		for i, c := range k.Chars {
			if c == ':' && !k.Escaped[i] {
				markers++
			}
		}
		n, e := token.Split(k)
		switch {
		case e != api.OK:
			if n != (token.Name{}) || markers == 0 && token.Dots(k) == 0 {
				t.Fatalf("Split of %q = %v, %v", s, n, e)
			}
		case markers == 0 && (n.Kind != token.Symbol || n.Name != token.Text(k)),
			n.Kind == token.External && n.Package+":"+n.Name != token.Text(k),
			n.Kind == token.Internal && n.Package+"::"+n.Name != token.Text(k),
			n.Kind == token.Keyword && (n.Package != "" || ":"+n.Name != token.Text(k)):
			t.Fatalf("Split of %q = %v", s, n)
		}
	}
}

// slowPotential is the description of Potential by regular expressions.
func slowPotential(s string, base int) bool {
	digits := "0-9"
	if base > 10 {
		last := string(rune('a' + base - 11))
		digits += "a-" + last + "A-" + strings.ToUpper(last)
	}
	first := "[" + digits + "+.^_-]"
	isDigit := regexp.MustCompile("[" + digits + "]")
	letters := regexp.MustCompile("[a-zA-Z]{2}").MatchString(isDigit.ReplaceAllString(s, "0"))
	return regexp.MustCompile("^"+first).MatchString(s) && !regexp.MustCompile("[+-]$").MatchString(s) &&
		isDigit.MatchString(s) && !letters && regexp.MustCompile("^[a-zA-Z0-9+/.^_-]*$").MatchString(s)
}

func TestP6_1Potential(t *testing.T) {
	r := source(7)
	for range 3 * runs {
		s, base := randomText(r, "01289abfgzABFGZ+-/.^_", 6), 2+r.IntN(35)
		if r.IntN(9) == 0 {
			s += randomText(r, someChars, 1)
		}
		if got, e := token.Potential(s, base); got != slowPotential(s, base) || e != api.OK {
			t.Fatalf("Potential(%q, %d) = %v, %v", s, base, got, e)
		}
	}
	for _, x := range []struct {
		s    string
		base int
		e    api.Errno
	}{{"1", 1, api.ErrArg}, {"1", 37, api.ErrArg}, {"\xff", 1, api.ErrForm}, {strings.Repeat("\xff", 4001), 1, api.ErrSize}} {
		if got, e := token.Potential(x.s, x.base); got || e != x.e {
			t.Errorf("Potential(%.5q, %d) = %v, %v", x.s, x.base, got, e)
		}
	}
}

// least returns the text of the character with the least code of a kind.
func least(t token.Table, kind int) string {
	l := []rune(someChars)
	slices.Sort(l)
	for _, c := range l {
		if kindOf(t, c) == kind {
			return string(c)
		}
	}
	return ""
}

// slowEscaped is the description of Escaped.
func slowEscaped(t token.Table, name string, base int) (string, api.Errno) {
	back, _ := token.Back(t, name)
	k, taken, e := slowNext(t, []rune(back))
	if e == api.OK && taken == utf8.RuneCountInString(back) && string(k.Chars) == name && !k.Escapes &&
		!strings.Contains(name, ":") && strings.Trim(name, ".") != "" && !slowPotential(name, base) {
		return back, api.OK
	}
	single, bar := least(t, token.Single), least(t, token.Multiple)
	out := bar
	for _, c := range name {
		if kind := kindOf(t, c); kind == token.Single || kind == token.Multiple {
			if single == "" {
				return "", api.ErrNone
			}
			out += single
		}
		out += string(c)
	}
	if bar == "" {
		return "", api.ErrNone
	}
	return out + bar, api.OK
}

func TestP6_5Escaped(t *testing.T) {
	r := source(8)
	for range 5 * runs {
		x, name, base := randomTable(r), randomText(r, someChars+"ABCabc123...", 5), 2+r.IntN(35)
		want, e := slowEscaped(x, name, base)
		got, f := token.Escaped(x, name, base)
		if got != want || e != f {
			t.Fatalf("Escaped(%v, %q, %d) = %q, %v, not %q, %v", x, name, base, got, f, want, e)
		}
		if e != api.OK {
			continue
		}
		behind := ""
		for _, c := range someChars {
			if kindOf(x, c) == token.White {
				behind = string(c) + "b"
			}
		}
		k, end, e := token.Next(x, got+behind, 0)
		if e != api.OK || end != len(got) || token.Text(k) != name || token.Dots(k) > 0 {
			t.Fatalf("%q is read as %v, %d, %v", got+behind, k, end, e)
		}
		if is, _ := token.Potential(name, base); is && !k.Escapes {
			t.Fatalf("%q looks like a number", got)
		}
	}
}

func TestP6_1EscapedErrors(t *testing.T) {
	noBar := token.Table{Entries: []token.Entry{{Char: '|', Kind: token.Constituent}}}
	noSingle := token.Table{Entries: []token.Entry{{Char: '\\', Kind: token.Constituent}}}
	neither := token.Table{Entries: append(slices.Clone(noSingle.Entries), noBar.Entries...)}
	early := token.Table{Entries: []token.Entry{{Char: '!', Kind: token.Multiple}, {Char: '$', Kind: token.Single}, {Char: '%', Kind: token.Single}}}
	late := token.Table{Entries: []token.Entry{{Char: '|', Kind: token.Single}, {Char: '}', Kind: token.Multiple}, {Char: '~', Kind: token.Multiple}}}
	for _, x := range []struct {
		t    token.Table
		name string
		base int
		want string
		e    api.Errno
	}{
		{noBar, "A", 10, "a", api.OK}, {noBar, "a", 10, "", api.ErrNone}, {noSingle, "a", 10, "|a|", api.OK}, {noSingle, "a|", 10, "", api.ErrNone},
		{noSingle, "A\\", 10, "a\\", api.OK}, {neither, "A|\\", 10, "a|\\", api.OK}, {neither, "", 10, "", api.ErrNone},
		{early, "a\\|!%", 10, "!a$\\$|$!$%!", api.OK}, {late, "a\\|}~", 10, "}a\\\\\\|\\}\\~}", api.OK},
		{token.Table{}, "A", 1, "", api.ErrArg}, {token.Table{}, "A", 37, "", api.ErrArg}, {token.Table{}, "\xff", 1, "", api.ErrForm},
		{token.Table{}, strings.Repeat("\xff", 4001), 1, "", api.ErrSize}, {token.Table{Case: 7}, "\xff", 1, "", api.ErrArg},
	} {
		if got, e := token.Escaped(x.t, x.name, x.base); got != x.want || e != x.e {
			t.Errorf("Escaped(%v, %.6q, %d) = %q, %v, not %q, %v", x.t, x.name, x.base, got, e, x.want, x.e)
		}
	}
}

func TestP6_5Written(t *testing.T) {
	r := source(9)
	for range 5 * runs {
		x, base := randomTable(r), 2+r.IntN(35)
		n := token.Name{Kind: r.IntN(4), Name: randomText(r, someChars+"ABCabc123...", 5)}
		if n.Kind >= token.External {
			n.Package = randomText(r, someChars+"ABCabc123...", 5)
		}
		got, e := token.Written(x, n, base)
		if e != api.OK {
			if got != "" || e != api.ErrArg && e != api.ErrNone {
				t.Fatalf("Written(%v, %v) = %q, %v", x, n, got, e)
			}
			continue
		}
		k, end, e := token.Next(x, got, 0)
		back, f := token.Split(k)
		if e != api.OK || f != api.OK || end != len(got) || back != n {
			t.Fatalf("Written(%v, %v) = %q, which is %v, %v, %v", x, n, got, back, e, f)
		}
	}
}

func TestP6_1Written(t *testing.T) {
	colon := func(kind int) token.Table { return token.Table{Entries: []token.Entry{{Char: ':', Kind: kind}}} }
	noBar := token.Table{Entries: []token.Entry{{Char: '|', Kind: token.Constituent}}, Case: token.Invert}
	inverted := token.Table{Case: token.Invert}
	keyword, external, internal := token.Keyword, token.External, token.Internal
	long := strings.Repeat("A", 2500)
	for _, x := range []struct {
		t    token.Table
		n    token.Name
		base int
		want string
		e    api.Errno
	}{
		{token.Table{}, token.Name{Name: "FOO"}, 10, "foo", api.OK}, {token.Table{}, token.Name{Name: ""}, 10, "||", api.OK},
		{token.Table{}, token.Name{Name: ":"}, 10, "|:|", api.OK}, {token.Table{}, token.Name{Kind: keyword, Name: ""}, 10, ":||", api.OK},
		{token.Table{}, token.Name{Kind: keyword, Name: "12"}, 10, ":|12|", api.OK},
		{token.Table{}, token.Name{Kind: external, Package: "P", Name: "FF"}, 16, "p:|FF|", api.OK}, {token.Table{}, token.Name{Kind: internal, Package: ".", Name: "FF"}, 10, "|.|::ff", api.OK},
		{inverted, token.Name{Kind: internal, Package: "FOO", Name: "bar"}, 10, "|FOO|::|bar|", api.OK}, {inverted, token.Name{Kind: internal, Package: "foo", Name: "bar"}, 10, "FOO::BAR", api.OK},
		{inverted, token.Name{Kind: external, Package: "FOO", Name: "b r"}, 10, "foo:|b r|", api.OK}, {inverted, token.Name{Kind: external, Package: "Foo", Name: "BAR"}, 10, "|Foo|:|BAR|", api.OK},
		{noBar, token.Name{Kind: external, Package: "FOO", Name: "bar"}, 10, "", api.ErrNone},
		{token.Table{}, token.Name{Kind: external, Package: long, Name: long}, 10, "|" + long + "|:|" + long + "|", api.OK},
		{token.Table{}, token.Name{Kind: 4, Name: "A"}, 10, "", api.ErrArg}, {token.Table{}, token.Name{Kind: -1, Name: "A"}, 10, "", api.ErrArg},
		{token.Table{}, token.Name{Package: "P", Name: "A"}, 10, "", api.ErrArg}, {token.Table{}, token.Name{Kind: keyword, Package: "P", Name: "A"}, 10, "", api.ErrArg},
		{token.Table{}, token.Name{Kind: external, Name: "\xff"}, 10, "", api.ErrArg}, {token.Table{}, token.Name{Kind: internal, Package: "\xff"}, 10, "", api.ErrArg},
		{token.Table{}, token.Name{Kind: internal, Package: "\xff", Name: strings.Repeat("a", 4001)}, 10, "", api.ErrForm},
		{token.Table{}, token.Name{Kind: internal, Package: "P", Name: "\xff"}, 10, "", api.ErrForm}, {token.Table{}, token.Name{Name: "A"}, 37, "", api.ErrArg},
		{token.Table{Case: 4}, token.Name{Kind: 5, Name: "\xff"}, 10, "", api.ErrArg},
		{colon(token.Nonterminating), token.Name{Kind: keyword, Name: "A"}, 10, "", api.ErrNone}, {colon(token.Nonterminating), token.Name{Kind: external, Package: "P", Name: "A"}, 10, "p:a", api.OK},
		{colon(token.White), token.Name{Kind: internal, Package: "P", Name: "A"}, 10, "", api.ErrNone}, {colon(token.White), token.Name{Name: "A:"}, 10, "|A:|", api.OK},
		{colon(token.Single), token.Name{Kind: keyword, Name: "A"}, 10, "", api.ErrNone}, {colon(token.Multiple), token.Name{Kind: external, Package: "P", Name: "A"}, 10, "", api.ErrNone},
		{colon(token.Invalid), token.Name{Kind: internal, Package: "P", Name: "A"}, 10, "", api.ErrNone}, {colon(token.Terminating), token.Name{Kind: keyword, Name: "\xff"}, 10, "", api.ErrForm},
	} {
		if got, e := token.Written(x.t, x.n, x.base); got != x.want || e != x.e {
			t.Errorf("Written(%v, %.40v, %d) = %.20q, %v, not %.20q, %v", x.t, x.n, x.base, got, e, x.want, x.e)
		}
	}
}

func TestP6_7Places(t *testing.T) {
	r := source(10)
	for range runs {
		s := randomText(r, "ab\n\né漢\r", 12)
		last := token.Place{}
		for at := 0; at <= len(s); at++ {
			p, e := token.Where(s, at)
			if at < len(s) && !utf8.RuneStart(s[at]) {
				if p != (token.Place{}) || e != api.ErrArg {
					t.Fatalf("Where(%q, %d) = %v, %v", s, at, p, e)
				}
				continue
			}
			ahead := s[:at]
			line := ahead[strings.LastIndexByte(ahead, '\n')+1:]
			want := token.Place{Line: strings.Count(ahead, "\n") + 1, Column: utf8.RuneCountInString(line) + 1}
			if p != want || e != api.OK || p.Line < last.Line || p.Line == last.Line && p.Column <= last.Column {
				t.Fatalf("Where(%q, %d) = %v, %v, not %v", s, at, p, e, want)
			}
			last = p
		}
	}
	for _, x := range []struct {
		s  string
		at int
		e  api.Errno
	}{{"a", -1, api.ErrArg}, {"a", 2, api.ErrArg}, {"\xff", -1, api.ErrForm}, {strings.Repeat("\xff", 4001), -1, api.ErrSize}} {
		if p, e := token.Where(x.s, x.at); p != (token.Place{}) || e != x.e {
			t.Errorf("Where(%.5q, %d) = %v, %v", x.s, x.at, p, e)
		}
	}
}
