package format

// repeated puts out line feeds, form feeds or tildes.
func (r *run) repeated(c call) end {
	char := "~"
	switch c.char {
	case '%':
		char = "\n"
	case '|':
		char = "\f"
	}
	r.out.pad(char, c.number(0, 1))
	return goesOn
}

// fresh puts out line feeds, of which the first one may be there already.
func (r *run) fresh(c call) end {
	n := c.number(0, 1)
	if r.out.column() == 0 {
		n--
	}
	r.out.pad("\n", n)
	return goesOn
}

// lineEnd leaves out a line feed in the control string, and the spaces behind it.
func (r *run) lineEnd(c call) end {
	if c.at {
		r.out.put("\n")
	}
	if c.colon {
		r.out.put(c.spaces)
	}
	return goesOn
}

func (r *run) tabulate(c call) end {
	column, first, step := r.out.column(), c.number(0, 1), c.number(1, 1)
	goal := first
	switch {
	case c.at:
		goal = column + first
		if step > 0 {
			goal += (step - goal%step) % step
		}
	case column >= first && step > 0:
		goal = first + (column-first)/step*step + step
	}
	r.out.pad(" ", goal-column)
	return goesOn
}

// pass takes arguments without a look at them, or goes back.
func (r *run) pass(c call) end {
	switch {
	case c.colon:
		r.args.moveTo(r.args.at - c.number(0, 1))
	case c.at:
		r.args.moveTo(c.number(0, 0))
	default:
		r.args.moveTo(r.args.at + c.number(0, 1))
	}
	return goesOn
}
