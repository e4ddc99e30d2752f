package pretty

import (
	"strings"

	"commonform/api"
)

// page is a text that is made from its beginning on. The spaces at its end are counted, since a line that is broken loses them.
type page struct {
	out    strings.Builder
	spaces int
	column int
	lines  int // line feeds
}

// append appends the text of an operation, or the spaces of a Tab.
func (p *page) append(x Op) {
	switch {
	case x.hasText():
		p.put(x.Text)
	case x.Kind == Tab:
		p.pad(p.column + x.spaces(p.column))
	}
}

// pad appends spaces up to a column.
func (p *page) pad(column int) {
	if n := column - p.column; n > 0 {
		p.spaces += n
		p.column += n
	}
}

func (p *page) put(s string) {
	inked := strings.TrimRight(s, " ")
	if inked != "" {
		p.flush()
		p.out.WriteString(inked)
	}
	p.spaces += len(s) - len(inked)
	for _, c := range s {
		p.column++
		if c == '\n' {
			p.column = 0
			p.lines++
		}
	}
}

// flush writes the spaces that are no more at the end. A text that is too large already needs none.
func (p *page) flush() {
	if !p.isLarge() {
		p.out.WriteString(strings.Repeat(" ", p.spaces))
	}
	p.spaces = 0
}

// isLarge reports whether the text is too large, whatever follows.
func (p *page) isLarge() bool { return p.out.Len() > maxText }

// feed ends a line.
func (p *page) feed() {
	p.spaces = 0
	p.put("\n")
}

func (p *page) text() (string, api.Errno) {
	if p.out.Len()+p.spaces > maxText {
		return "", api.ErrLarge
	}
	p.flush()
	return p.out.String(), api.OK
}
