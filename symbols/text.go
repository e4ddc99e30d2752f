package symbols

import (
	"slices"
	"strconv"
	"strings"

	"commonform/api"
)

// maxText is how many bytes a text that is parsed has at most.
const maxText = 200000

const digits = "0123456789abcdef"

// Text returns all of a table as a text.
func (t *Table) Text() string {
	if t == nil {
		return ""
	}
	var out strings.Builder
	for _, s := range t.symbols {
		line(&out, "symbol", written(s.name), joined(homes(s)))
	}
	for p := range t.all() {
		line(&out, "package", written(p.name), joined(p.nicknames), joined(p.uses), numerals(p.internal()), numerals(sorted(p.external)), numerals(sorted(p.shadowing)))
	}
	return out.String()
}

// homes returns the home of a symbol, if it has one.
func homes(s symbol) []string {
	if s.home == "" {
		return nil
	}
	return []string{s.home}
}

func line(out *strings.Builder, words ...string) {
	out.WriteString(strings.Join(words, " ") + "\n")
}

// written returns a name as hexadecimal digits.
func written(name string) string {
	out := []byte{'x'}
	for _, b := range []byte(name) {
		out = append(out, digits[b>>4], digits[b&15])
	}
	return string(out)
}

// list returns words with commas between them.
func list(words []string) string {
	if len(words) == 0 {
		return "-"
	}
	return strings.Join(words, ",")
}

func joined(names []string) string {
	var words []string
	for _, s := range names {
		words = append(words, written(s))
	}
	return list(words)
}

func numerals(numbers []int) string {
	var words []string
	for _, n := range numbers {
		words = append(words, strconv.Itoa(n))
	}
	return list(words)
}

// Parse returns the table with a text.
func Parse(s string) (*Table, api.Errno) {
	if len(s) > maxText {
		return nil, api.ErrSize
	}
	// What is read more freely than Text writes it is told by the text, and nothing else.
	t, ok := parse(s)
	if !ok || !t.isRight() || t.Text() != s {
		return nil, api.ErrForm
	}
	return t, api.OK
}

// parse reads the lines of a text.
func parse(s string) (*Table, bool) {
	t := &Table{packages: map[string]*pack{}}
	for row := range strings.Lines(s) {
		words := strings.Fields(row)
		ok := false
		switch {
		case len(words) == 3 && words[0] == "symbol":
			ok = t.parseSymbol(words[1:])
		case len(words) == 7 && words[0] == "package":
			ok = t.parsePackage(words[1:])
		}
		if !ok {
			return nil, false
		}
	}
	return t, true
}

func (t *Table) parseSymbol(words []string) bool {
	name, ok := parseName(words[0])
	homes, also := parseNames(words[1])
	t.symbols = append(t.symbols, symbol{name, strings.Join(homes, "")})
	return ok && also && len(homes) <= 1
}

func (t *Table) parsePackage(words []string) bool {
	name, isName := parseName(words[0])
	nicknames, areNicknames := parseNames(words[1])
	uses, areUses := parseNames(words[2])
	p := newPack(name, nicknames, uses)
	if !isName || !areNicknames || !areUses || t.isTaken(append([]string{name}, nicknames...)) {
		return false
	}
	t.add(p)
	internal := map[int]bool{}
	return t.parsePresent(p, words[3], internal) && t.parsePresent(p, words[4], p.external) && t.parseShadowing(p, words[5])
}

// parsePresent reads numbers of symbols of a package, which are put into a set, too.
func (t *Table) parsePresent(p *pack, s string, set map[int]bool) bool {
	numbers, ok := t.parseNumbers(s)
	for _, n := range numbers {
		name := t.symbols[n].name
		if _, isThere := p.present[name]; isThere {
			return false
		}
		p.present[name] = n
		set[n] = true
	}
	return ok
}

func (t *Table) parseShadowing(p *pack, s string) bool {
	numbers, ok := t.parseNumbers(s)
	for _, n := range numbers {
		if !p.isPresent(n, t.symbols[n].name) {
			return false
		}
		p.shadowing[n] = true
	}
	return ok
}

func (p *pack) isPresent(number int, name string) bool {
	n, ok := p.present[name]
	return ok && n == number
}

// items returns the elements of a list.
func items(s string) []string {
	if s == "-" {
		return nil
	}
	return strings.Split(s, ",")
}

// parseNumbers returns numbers of symbols.
func (t *Table) parseNumbers(s string) ([]int, bool) {
	var out []int
	for _, word := range items(s) {
		n, err := strconv.Atoi(word)
		if err != nil || !t.isSymbol(n) {
			return nil, false
		}
		out = append(out, n)
	}
	return out, true
}

func parseNames(s string) ([]string, bool) {
	var out []string
	for _, word := range items(s) {
		name, ok := parseName(word)
		if !ok {
			return nil, false
		}
		out = append(out, name)
	}
	return out, true
}

// parseName reads a name, which may not be too long.
func parseName(s string) (string, bool) {
	hex, ok := strings.CutPrefix(s, "x")
	if !ok || len(hex)%2 != 0 || len(hex) > 2*api.MaxName {
		return "", false
	}
	var out []byte
	for i := 0; i < len(hex); i += 2 {
		b, err := strconv.ParseUint(hex[i:i+2], 16, 8)
		if err != nil {
			return "", false
		}
		out = append(out, byte(b))
	}
	return string(out), true
}

// isRight reports whether a table that was read is right, as far as reading does not tell.
func (t *Table) isRight() bool {
	if len(t.order) > maxPackages || len(t.symbols) > api.MaxSymbols || !t.hasFirst() {
		return false
	}
	for p := range t.all() {
		if p.name == "" || !t.usesRight(p) || t.hasClash(p) {
			return false
		}
	}
	for n, s := range t.symbols {
		p := t.packages[s.home]
		if s.home != "" && (p == nil || p.name != s.home || !p.isPresent(n, s.name)) {
			return false
		}
	}
	return true
}

// hasFirst reports whether the first packages are those of every table.
func (t *Table) hasFirst() bool {
	for i, p := range firstPackages() {
		if i >= len(t.order) || t.order[i] != p.name || !slices.Equal(t.packages[p.name].nicknames, p.nicknames) {
			return false
		}
	}
	return true
}

// usesRight reports whether a package uses other packages by their names, none twice, and not KEYWORD.
func (t *Table) usesRight(p *pack) bool {
	for i, s := range p.uses {
		q := t.packages[s]
		if q == nil || q == p || q.name != s || s == keyword || slices.Contains(p.uses[:i], s) {
			return false
		}
	}
	return true
}
