package symbols

import (
	"slices"
	"strconv"
	"strings"

	"commonform/api"
)

// maxText is how many bytes a text that is parsed has at most.
const maxText = 200000

const digits = "0123456789abcdef"

// Text returns all of a table as a text.
func (t *Table) Text() string {
	if t == nil {
		return ""
	}
	var out strings.Builder
	for _, s := range t.symbols {
		line(&out, "symbol", written(s.name), joined(homes(s)))
	}
	for p := range t.all() {
		line(&out, "package", written(p.name), joined(p.nicknames), joined(p.uses), numerals(p.internal()), numerals(sorted(p.external)), numerals(sorted(p.shadowing)))
	}
	return out.String()
}

// homes returns the home of a symbol, if it has one.
func homes(s symbol) []string {
	if s.home == "" {
		return nil
	}
	return []string{s.home}
}

func line(out *strings.Builder, words ...string) {
	out.WriteString(strings.Join(words, " ") + "\n")
}

// written returns a name as hexadecimal digits.
func written(name string) string {
	out := []byte{'x'}
	for _, b := range []byte(name) {
		out = append(out, digits[b>>4], digits[b&15])
	}
	return string(out)
}

// list returns words with commas between them.
func list(words []string) string {
	if len(words) == 0 {
		return "-"
	}
	return strings.Join(words, ",")
}

func joined(names []string) string {
	var words []string
	for _, s := range names {
		words = append(words, written(s))
	}
	return list(words)
}

func numerals(numbers []int) string {
	var words []string
	for _, n := range numbers {
		words = append(words, strconv.Itoa(n))
	}
	return list(words)
}

// Parse returns the table with a text.
func Parse(s string) (*Table, api.Errno) {
	if len(s) > maxText {
		return nil, api.ErrSize
	}
	t := parse(s)
	if !t.isRight() || t.Text() != s {
		return nil, api.ErrForm
	}
	return t, api.OK
}

// parse reads the lines of a text. It leaves out what does not fit: then the text of the table is another one.
func parse(s string) *Table {
	t := &Table{packages: map[string]*pack{}}
	for row := range strings.Lines(s) {
		switch words := strings.Fields(row); len(words) {
		case 3:
			t.symbols = append(t.symbols, symbol{parseName(words[1]), strings.Join(parseNames(words[2]), "")})
		case 7:
			t.parsePackage(words[1:])
		}
	}
	return t
}

func (t *Table) parsePackage(words []string) {
	p := newPack(parseName(words[0]), parseNames(words[1]), parseNames(words[2]))
	if t.isTaken(append([]string{p.name}, p.nicknames...)) {
		return
	}
	t.add(p)
	t.parsePresent(p, words[3])
	for _, n := range t.parsePresent(p, words[4]) {
		p.external[n] = true
	}
	for _, n := range t.parseNumbers(words[5]) {
		if p.isPresent(n, t.symbols[n].name) {
			p.shadowing[n] = true
		}
	}
}

// parsePresent reads numbers of symbols. It makes those whose names are new in a package present, and returns them.
func (t *Table) parsePresent(p *pack, s string) []int {
	var out []int
	for _, n := range t.parseNumbers(s) {
		name := t.symbols[n].name
		if _, isThere := p.present[name]; !isThere {
			p.present[name] = n
			out = append(out, n)
		}
	}
	return out
}

func (p *pack) isPresent(number int, name string) bool {
	n, ok := p.present[name]
	return ok && n == number
}

// items returns the elements of a list.
func items(s string) []string {
	if s == "-" {
		return nil
	}
	return strings.Split(s, ",")
}

// parseNumbers returns numbers of symbols.
func (t *Table) parseNumbers(s string) []int {
	var out []int
	for _, word := range items(s) {
		if n, err := strconv.Atoi(word); err == nil && t.isSymbol(n) {
			out = append(out, n)
		}
	}
	return out
}

func parseNames(s string) []string {
	var out []string
	for _, word := range items(s) {
		out = append(out, parseName(word))
	}
	return out
}

// parseName returns a name; the empty one for what is none, or too long.
func parseName(s string) string {
	hex, _ := strings.CutPrefix(s, "x")
	if len(hex)%2 != 0 || len(hex) > 2*api.MaxName {
		return ""
	}
	var out []byte
	for i := 0; i < len(hex); i += 2 {
		b, _ := strconv.ParseUint(hex[i:i+2], 16, 8)
		out = append(out, byte(b))
	}
	return string(out)
}

// isRight reports whether a table that was read is right, as far as reading does not tell.
func (t *Table) isRight() bool {
	if len(t.order) > maxPackages || len(t.symbols) > api.MaxSymbols || !t.hasFirst() {
		return false
	}
	for p := range t.all() {
		if p.name == "" || !t.usesRight(p) || t.hasClash(p) {
			return false
		}
	}
	for n, s := range t.symbols {
		p := t.packages[s.home]
		if s.home != "" && (p == nil || p.name != s.home || !p.isPresent(n, s.name)) {
			return false
		}
	}
	return true
}

// hasFirst reports whether the first packages are those of every table.
func (t *Table) hasFirst() bool {
	for i, p := range firstPackages() {
		if i >= len(t.order) || t.order[i] != p.name || !slices.Equal(t.packages[p.name].nicknames, p.nicknames) {
			return false
		}
	}
	return true
}

// usesRight reports whether a package uses other packages by their names, none twice, and not KEYWORD.
func (t *Table) usesRight(p *pack) bool {
	for i, s := range p.uses {
		q := t.packages[s]
		if q == nil || q == p || q.name != s || s == keyword || slices.Contains(p.uses[:i], s) {
			return false
		}
	}
	return true
}
