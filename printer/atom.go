package printer

import (
	"slices"
	"strconv"
	"strings"
	"unicode/utf8"

	"commonform/api"
	"commonform/forms"
	"commonform/token"
)

// limited returns a text, if it is not too long.
func limited(s string) (string, api.Errno) {
	if len(s) > maxText {
		return "", api.ErrLarge
	}
	return s, api.OK
}

// Symbol returns the text of a symbol.
func Symbol(o Options, f api.Form) (string, api.Errno) {
	if e := Check(o); e != api.OK {
		return "", e
	}
	if f.Kind != api.FormSymbol {
		return "", api.ErrType
	}
	if e := forms.Check(f); e != api.OK {
		return "", e
	}
	s, e := o.symbol(f)
	if e != api.OK {
		return "", e
	}
	return limited(s)
}

func (o Options) symbol(f api.Form) (string, api.Errno) {
	if !o.Escape {
		return token.Back(o.Table, f.Text)
	}
	if f.Home == "" {
		s, e := token.Escaped(o.Table, f.Text, o.Base)
		if e != api.OK {
			return "", e
		}
		return "#:" + s, api.OK
	}
	return token.Written(o.Table, o.name(f), o.Base)
}

// name returns a symbol with a home as it is to be written.
func (o Options) name(f api.Form) token.Name {
	switch {
	case f.Home == keyword:
		return token.Name{Kind: token.Keyword, Name: f.Text}
	case f.Home == o.Package || slices.Contains(o.Uses, f.Home):
		return token.Name{Kind: token.Symbol, Name: f.Text}
	case slices.Contains(o.External, External{f.Home, f.Text}):
		return token.Name{Kind: token.External, Package: f.Home, Name: f.Text}
	}
	return token.Name{Kind: token.Internal, Package: f.Home, Name: f.Text}
}

// Character returns the text of a character.
func Character(o Options, c rune) (string, api.Errno) {
	if e := Check(o); e != api.OK {
		return "", e
	}
	if !utf8.ValidRune(c) {
		return "", api.ErrArg
	}
	return o.character(c), api.OK
}

func (o Options) character(c rune) string {
	if !o.Escape {
		return string(c)
	}
	return `#\` + nameOf(c)
}

// nameOf returns the name of a character; if it has none, the character itself.
func nameOf(c rune) string {
	const rubout, lastControl = 127, 159
	switch c {
	case 0:
		return "Null"
	case '\b':
		return "Backspace"
	case '\t':
		return "Tab"
	case '\n':
		return "Newline"
	case '\f':
		return "Page"
	case '\r':
		return "Return"
	case ' ':
		return "Space"
	case rubout:
		return "Rubout"
	}
	if c > ' ' && c < rubout || c > lastControl {
		return string(c)
	}
	digits := strings.ToUpper(strconv.FormatInt(int64(c), 16))
	return "U" + strings.Repeat("0", 4-len(digits)) + digits
}

// String returns the text of a string.
func String(o Options, s string) (string, api.Errno) {
	if e := Check(o); e != api.OK {
		return "", e
	}
	if !utf8.ValidString(s) {
		return "", api.ErrForm
	}
	s, e := o.text(s)
	if e != api.OK {
		return "", e
	}
	return limited(s)
}

func (o Options) text(s string) (string, api.Errno) {
	if !o.Escape {
		return s, api.OK
	}
	singles := o.singles()
	var out strings.Builder
	out.WriteByte('"')
	for _, c := range s {
		if c == '"' || slices.Contains(singles, c) {
			if len(singles) == 0 {
				return "", ErrReadable
			}
			out.WriteRune(singles[0])
		}
		out.WriteRune(c)
	}
	out.WriteByte('"')
	return out.String(), api.OK
}

// singles returns the Single characters, ascending.
func (o Options) singles() []rune {
	const standard = '\\'
	var out []rune
	if kind, _ := token.Kind(o.Table, standard); kind == token.Single {
		out = append(out, standard)
	}
	for _, x := range o.Table.Entries {
		if x.Kind == token.Single {
			out = append(out, x.Char)
		}
	}
	slices.Sort(out)
	return out
}
