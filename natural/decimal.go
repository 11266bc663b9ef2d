package natural

import (
	"bytes"
	"slices"

	"schisma/api"
)

// Digits are taken in groups: a limb holds as many decimal digits.
const (
	groupDigits = 9
	groupBase   = 1000000000
)

// decimal returns the text of a.
func decimal(a api.Nat) string {
	if len(a) == 0 {
		return "0"
	}
	rest := slices.Clone(a)
	var text []byte // the least digit first
	for len(rest) > 0 {
		group := divideBy(rest, groupBase)
		for range groupDigits {
			text = append(text, byte('0'+group%10))
			group /= 10
		}
		rest = trim(rest)
	}
	text = bytes.TrimRight(text, "0")
	slices.Reverse(text)
	return string(text)
}

// isDecimal reports whether s is one or more decimal digits without a leading zero.
func isDecimal(s string) bool {
	if s == "" || s[0] == '0' && s != "0" {
		return false
	}
	for i := range len(s) {
		if s[i] < '0' || s[i] > '9' {
			return false
		}
	}
	return true
}

// number returns the natural number whose text is s.
func number(s string) api.Nat {
	var limbs []uint32
	for len(s) > 0 {
		n := min(groupDigits, len(s))
		factor, group := uint32(1), uint32(0)
		for i := range n {
			factor *= 10
			group = group*10 + uint32(s[i]-'0')
		}
		// Without a leading zero the number only grows: the limit is
		// checked at once, however long the rest of s is.
		limbs = fit(timesPlus(limbs, factor, group))
		s = s[n:]
	}
	return limbs
}

// timesPlus returns limbs * factor + more, with one limb more.
func timesPlus(limbs []uint32, factor, more uint32) []uint32 {
	out := make([]uint32, len(limbs)+1)
	out[0] = more
	out[len(limbs)] += addTimes(out[:len(limbs)], limbs, factor)
	return out
}
