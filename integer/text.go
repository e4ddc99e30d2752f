package integer

import (
	"slices"

	"commonform/api"
)

const digitNames = "0123456789ABCDEFGHIJKLMNOPQRSTUVWXYZ"

// chunk returns how many digits of the radix one limb can hold, and the radix to the power of this number.
func chunk(radix int) (digits int, power uint32) {
	digits, p := 0, uint64(1)
	for p*uint64(radix)>>limbBits == 0 {
		p *= uint64(radix)
		digits++
	}
	return digits, uint32(p)
}

// Text returns the digits of x.
func (x Int) Text(radix int) (string, api.Errno) {
	if radix < 2 || radix > 36 {
		return "", api.ErrArg
	}
	if x.Sign() == 0 {
		return "0", api.OK
	}
	out := reversed(x.limbs, radix)
	for out[len(out)-1] == '0' {
		out = out[:len(out)-1]
	}
	if x.negative {
		out = append(out, '-')
	}
	slices.Reverse(out)
	return string(out), api.OK
}

// reversed returns the digits, the lowest one first, perhaps with zeros at the end.
func reversed(limbs []uint32, radix int) []byte {
	digits, power := chunk(radix)
	var out []byte
	for rest := limbs; len(rest) > 0; {
		var part uint32
		rest, part = short(rest, power)
		for range digits {
			out = append(out, digitNames[part%uint32(radix)])
			part /= uint32(radix)
		}
	}
	return out
}

// Parse returns the integer with digits.
func Parse(s string, radix int) (Int, api.Errno) {
	if radix < 2 || radix > 36 {
		return Int{}, api.ErrArg
	}
	if len(s) > api.MaxDigits {
		return Int{}, api.ErrLarge
	}
	negative := false
	if s != "" && (s[0] == '+' || s[0] == '-') {
		negative = s[0] == '-'
		s = s[1:]
	}
	limbs, ok := fromDigits(s, radix)
	if !ok {
		return Int{}, api.ErrForm
	}
	return signed(negative, limbs), api.OK
}

// fromDigits reads one or more digits, as many at once as a limb can hold.
func fromDigits(s string, radix int) (limbs []uint32, ok bool) {
	if s == "" {
		return nil, false
	}
	digits, _ := chunk(radix)
	for s != "" {
		part, power := uint32(0), uint32(1)
		for i := range min(digits, len(s)) {
			d := digit(s[i])
			if d >= radix {
				return nil, false
			}
			part = part*uint32(radix) + uint32(d)
			power *= uint32(radix)
		}
		limbs = scaled(limbs, power, part)
		s = s[min(digits, len(s)):]
	}
	return limbs, true
}

// digit returns the value of a digit, and one above all radices for other bytes.
func digit(c byte) int {
	switch {
	case c >= '0' && c <= '9':
		return int(c - '0')
	case c >= 'A' && c <= 'Z':
		return int(c-'A') + 10
	case c >= 'a' && c <= 'z':
		return int(c-'a') + 10
	}
	return 99
}
