package format

import (
	"strconv"
	"strings"

	"commonform/api"
)

const (
	maxNesting = 20 // of brackets, and of control strings in ~?
	maxNumber  = 9  // digits of a parameter
)

// Kinds of parameters as they are written.
const (
	isEmpty = iota
	isNumber
	isCharacter
	isArgument // v
	isRest     // #
)

// param is a parameter as it is written: n is its number, or the byte of its character.
type param struct{ kind, n int }

// directive is a part of a control string: a text if it has no character.
type directive struct {
	text          string
	char          byte
	params        []param
	colon, at     bool
	parts         [][]directive // of a bracket
	hasElse       bool          // the last part stands for all others
	isOnceAtLeast bool
	spaces        string // behind a line feed
}

// isBetween reports whether a directive stands between or behind the parts of a bracket.
func (d directive) isBetween() bool { return strings.IndexByte(";)]}>", d.char) >= 0 }

// closer returns the character that closes a bracket, or 0.
func closer(char byte) byte {
	switch char {
	case '(':
		return ')'
	case '[':
		return ']'
	case '{':
		return '}'
	case '<':
		return '>'
	}
	return 0
}

// fail leaves what is being read or performed with an error.
func fail(e api.Errno) { panic(e) }

// attempt returns the error with which f failed, or OK.
func attempt(f func()) (e api.Errno) {
	defer func() {
		if code, ok := recover().(api.Errno); ok {
			e = code
		}
	}()
	f()
	return api.OK
}

// reader reads a control string.
type reader struct {
	s     string
	at    int
	rules map[byte]rule
}

// place is where a directive stands: how many brackets are around it, and whether it may end an iteration over lists.
type place struct {
	depth   int
	inLists bool
}

// read returns the parts of a control string, or its error.
func read(s string, rules map[byte]rule) (items []directive, e api.Errno) {
	if len(s) > api.MaxSource {
		return nil, api.ErrSize
	}
	r := reader{s: s, rules: rules}
	e = attempt(func() {
		l, next := r.items(place{})
		if next.isBetween() {
			fail(api.ErrForm)
		}
		items = l
	})
	return items, e
}

func (r *reader) isEnd() bool { return r.at == len(r.s) }

// next returns the next byte, or 0 at the end.
func (r *reader) next() byte {
	if r.isEnd() {
		return 0
	}
	return r.s[r.at]
}

func (r *reader) take() byte {
	if r.isEnd() {
		fail(api.ErrForm)
	}
	r.at++
	return r.s[r.at-1]
}

// while takes all bytes that are among some.
func (r *reader) while(bytes string) string {
	rest := r.s[r.at:]
	taken := rest[:len(rest)-len(strings.TrimLeft(rest, bytes))]
	r.at += len(taken)
	return taken
}

// items reads texts and directives up to the end, or to one that stands between or behind the parts of a bracket, which it returns, too.
func (r *reader) items(p place) (l []directive, next directive) {
	for !r.isEnd() {
		if r.next() != '~' {
			text, _, _ := strings.Cut(r.s[r.at:], "~")
			r.at += len(text)
			l = append(l, directive{text: text})
			continue
		}
		d := r.directive(p)
		if d.isBetween() {
			return l, d
		}
		l = append(l, d)
	}
	return l, directive{}
}

func (r *reader) directive(p place) directive {
	r.take()
	d := directive{params: r.params()}
	r.signs(&d)
	d.char = upper(r.take())
	known, ok := r.rules[d.char]
	isWrong := d.char == 'T' && d.colon || d.char == '*' && d.colon && d.at || d.char == '^' && d.colon && !p.inLists
	if !ok || len(d.params) > len(known.params) || isWrong {
		fail(api.ErrForm)
	}
	if d.char == '\n' {
		d.spaces = r.while(" \t")
	}
	if closer(d.char) != 0 {
		r.bracket(&d, p)
	}
	return d
}

// signs reads the colon and the at, each at most once.
func (r *reader) signs(d *directive) {
	for {
		sign := &d.colon
		switch r.next() {
		case ':':
		case '@':
			sign = &d.at
		default:
			return
		}
		if *sign {
			fail(api.ErrForm)
		}
		*sign = true
		r.at++
	}
}

// params reads parameters with commas between them; one that is empty and alone is none.
func (r *reader) params() []param {
	var out []param
	for {
		x := r.param()
		if r.next() != ',' {
			if x.kind != isEmpty || len(out) > 0 {
				out = append(out, x)
			}
			return out
		}
		out = append(out, x)
		r.at++
	}
}

func (r *reader) param() param {
	switch c := r.next(); c {
	case '\'':
		r.at++
		return param{isCharacter, int(r.take())}
	case 'v', 'V':
		r.at++
		return param{kind: isArgument}
	case '#':
		r.at++
		return param{kind: isRest}
	case '+', '-':
		r.at++
		n := r.number()
		if c == '-' {
			n = -n
		}
		return param{isNumber, n}
	}
	if c := r.next(); c < '0' || c > '9' {
		return param{}
	}
	return param{isNumber, r.number()}
}

func (r *reader) number() int {
	digits := r.while("0123456789")
	if digits == "" || len(digits) > maxNumber {
		fail(api.ErrForm)
	}
	n, _ := strconv.Atoi(digits)
	return n
}

// bracket reads the parts of a bracket, and what closes it.
func (r *reader) bracket(d *directive, p place) {
	p.depth++
	if p.depth > maxNesting {
		fail(api.ErrForm)
	}
	switch d.char {
	case '{':
		p.inLists = d.colon
	case '<':
		p.inLists = false
	}
	for {
		l, next := r.items(p)
		d.parts = append(d.parts, l)
		if next.char == closer(d.char) {
			d.isOnceAtLeast = next.colon
			break
		}
		if next.char != ';' || d.char != '[' && d.char != '<' || d.hasElse {
			fail(api.ErrForm)
		}
		d.hasElse = next.colon
	}
	if isWrongChoice := d.char == '[' && (d.colon || d.at) && (d.hasElse || d.colon == d.at || len(d.parts) != count(d.colon)); isWrongChoice || d.char == '<' && d.hasElse {
		fail(api.ErrForm)
	}
}

// count returns how many parts a choice by NIL has.
func count(colon bool) int {
	if colon {
		return 2
	}
	return 1
}
