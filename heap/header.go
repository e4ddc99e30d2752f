package heap

import "strings"

// header is the first word of an object: the kind in its lowest bits, whether there are bytes in the next one, and the number of fields or bytes in all others.
type header uint64

const (
	kindBits = 5
	rawBit   = 1 << kindBits
	lenShift = kindBits + 1
)

const bytesOfWord = 8

func headerOf(kind, fields int) header { return header(kind) | header(fields)<<lenShift }

func rawHeaderOf(kind, bytes int) header { return headerOf(kind, bytes) | rawBit }

func (x header) kind() int { return int(x & (rawBit - 1)) }

func (x header) isRaw() bool { return x&rawBit != 0 }

func (x header) len() int { return int(x >> lenShift) }

// size returns how many words the object takes.
func (x header) size() int {
	if x.isRaw() {
		return 1 + (x.len()+bytesOfWord-1)/bytesOfWord
	}
	return 1 + x.len()
}

// pack puts the bytes of a text into words, the first byte lowest.
func pack(text string, put func(Word)) {
	for at := 0; at < len(text); at += bytesOfWord {
		var w Word
		for i := range min(bytesOfWord, len(text)-at) {
			w |= Word(text[at+i]) << (8 * i)
		}
		put(w)
	}
}

// unpack returns the text of n bytes that pack put into the words that get returns.
func unpack(n int, get func(i int) Word) string {
	var out strings.Builder
	out.Grow(n)
	for at := 0; at < n; at += bytesOfWord {
		w := get(at / bytesOfWord)
		for range min(bytesOfWord, n-at) {
			out.WriteByte(byte(w))
			w >>= 8
		}
	}
	return out.String()
}
