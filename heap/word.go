package heap

import "commonform/api"

// Word is a word: a fixnum, a character, a mark, or a reference to an object.
type Word uint64

// Tags are the lowest three bits of a word.
const (
	tagFixnum = iota
	tagCharacter
	tagMark
	tagReference
)

const (
	tagBits = 3
	tagMask = 1<<tagBits - 1
)

// Unbound is the mark of what has no value; Nil is the reference to the first object, the symbol NIL.
const (
	Unbound Word = 2
	Nil     Word = 3
)

const (
	leastFixnum    = -1 << 60
	greatestFixnum = 1<<60 - 1
)

// Characters from firstSurrogate to lastSurrogate are none.
const (
	firstSurrogate = 0xd800
	lastSurrogate  = 0xdfff
	lastCharacter  = 0x10ffff
)

// Fix returns the fixnum n.
func Fix(n int64) (Word, api.Errno) {
	if n < leastFixnum || n > greatestFixnum {
		return 0, api.ErrRange
	}
	return Word(n) << tagBits, api.OK
}

// Fixnum returns the value of a fixnum.
func (w Word) Fixnum() (int64, bool) {
	if w&tagMask != tagFixnum {
		return 0, false
	}
	return int64(w) >> tagBits, true
}

// Char returns a character.
func Char(c rune) (Word, api.Errno) {
	if c < 0 || c > lastCharacter || c >= firstSurrogate && c <= lastSurrogate {
		return 0, api.ErrRange
	}
	return Word(c)<<tagBits | tagCharacter, api.OK
}

// Character returns the code of a character.
func (w Word) Character() (rune, bool) {
	if w&tagMask != tagCharacter || w>>tagBits > lastCharacter {
		return 0, false
	}
	c := rune(w >> tagBits)
	if _, e := Char(c); e != api.OK {
		return 0, false
	}
	return c, true
}

// IsRef reports whether a word has the tag of references.
func (w Word) IsRef() bool { return w&tagMask == tagReference }

// isImmediate reports whether a word says all by itself.
func (w Word) isImmediate() bool {
	_, character := w.Character()
	return character || w == Unbound || w&tagMask == tagFixnum
}

func reference(place int) Word { return Word(place)<<tagBits | tagReference }
