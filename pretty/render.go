package pretty

import "commonform/api"

// block is a block that was begun and has not ended.
type block struct {
	open               Op  // without a Flag for the outermost block
	column             int // at which the prefix stood in its first line
	start, indentation int
	isLong, isMiser    bool
	section            section // the last one so far
}

// section is where a section begins: the index of its first operation, its column, and the number of line feeds ahead of it.
type section struct{ first, column, lines int }

// Render returns the text of operations in lines of a width.
func Render(l []Op, width, miser int) (string, api.Errno) {
	if e := Check(l); e != api.OK {
		return "", e
	}
	if width < 1 || width > maxWidth || miser < 0 || miser > maxWidth {
		return "", api.ErrArg
	}
	fits := fitting(l, width)
	r := rendering{width: width, miser: miser, fits: func(s section) bool { return fits(s, 0) }}
	isWhole := fits(section{}, 1) // as in a block of its own, none of whose newlines ends the section
	r.blocks = []*block{{isLong: !isWhole, isMiser: width <= miser}}
lines:
	for i, x := range l {
		r.step(i, x)
		if r.page.isLarge() {
			break lines
		}
	}
	return r.page.text()
}

// fitting returns what tells whether a section fits in the column at which it begins; depth is the number of blocks that begin with it.
func fitting(l []Op, width int) func(s section, depth int) bool {
	lengths := make([]int, len(l)) // of the texts that are appended; too long with a line feed
	for i, x := range l {
		switch {
		case x.hasText() && hasLine(x.Text):
			lengths[i] = width + 1
		case x.hasText():
			lengths[i] = Width(x.Text)
		}
	}
	return func(s section, depth int) bool {
		column, outermost := s.column, 0
		for i := s.first; i < len(l) && column <= width; i++ {
			column += lengths[i]
			switch x := l[i]; x.Kind {
			case Open:
				depth++
			case Close:
				depth--
				outermost = min(outermost, depth)
			case Tab:
				column += x.spaces(column)
			case Newline:
				if depth == outermost {
					return true
				}
				if x.N == Mandatory {
					return false
				}
			}
		}
		return column <= width
	}
}

// rendering goes through operations.
type rendering struct {
	width, miser int
	fits         func(section) bool
	page         page
	blocks       []*block // the innermost one is the last one
}

func (r *rendering) innermost() *block { return r.blocks[len(r.blocks)-1] }

// here returns the section that begins with an operation.
func (r *rendering) here(first int) section {
	return section{first, r.page.column, r.page.lines}
}

func (r *rendering) step(i int, x Op) {
	b := r.innermost()
	switch x.Kind {
	case Open:
		r.open(i, x)
		return
	case Close:
		r.blocks = r.blocks[:len(r.blocks)-1]
	case Indent:
		if !b.isMiser {
			b.indent(x, r.page.column)
		}
	case Newline:
		if r.isBroken(i, x.N, b) {
			r.breakLine(b)
		}
		b.section = r.here(i + 1)
	}
	r.page.append(x)
}

func (r *rendering) open(i int, x Op) {
	outer := r.innermost()
	b := block{open: x, column: r.page.column, isLong: !r.fits(outer.section)}
	r.page.append(x)
	b.start = r.page.column
	b.indentation = b.start
	b.isMiser = r.width-b.start <= r.miser
	b.section = r.here(i + 1)
	r.blocks = append(r.blocks, &b)
}

func (b *block) indent(x Op, column int) {
	from := b.start
	if x.Flag {
		from = column
	}
	b.indentation = max(0, from+x.N)
}

// isBroken reports whether a newline breaks the line.
func (r *rendering) isBroken(i, kind int, b *block) bool {
	isCramped := b.isLong && b.isMiser
	switch kind {
	case Mandatory:
		return true
	case Linear:
		return b.isLong
	case Miser:
		return isCramped
	}
	return isCramped || b.section.lines < r.page.lines || !r.fits(r.here(i+1))
}

// breakLine ends the line, and begins the next one of a block with the prefixes of the blocks up to it.
func (r *rendering) breakLine(b *block) {
	r.page.feed()
	for _, x := range r.blocks {
		if x.open.Flag {
			r.page.pad(x.column)
			r.page.put(x.open.Text)
		}
	}
	r.page.pad(b.indentation)
}
