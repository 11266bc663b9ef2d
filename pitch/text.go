package pitch

import (
	"strconv"
	"strings"

	"schisma/api"
)

const (
	unison = "1"
	digits = "0123456789"
)

// text returns the text of p.
func text(p api.Pitch) string {
	var terms []string
	for factor := range powers(p) {
		terms = append(terms, term(factor))
	}
	if len(terms) == 0 {
		return unison
	}
	return strings.Join(terms, "*")
}

// term returns the term of a prime whose exponent is counted in twelfths.
func term(p power) string {
	s := strconv.Itoa(p.prime)
	if p.exponent == unit {
		return s
	}
	common := divisor(p.exponent, unit)
	s += "^" + strconv.Itoa(p.exponent/common)
	if common < unit {
		s += "/" + strconv.Itoa(unit/common)
	}
	return s
}

// read returns the pitch whose text is s, and whether there is one.
func read(s string) (api.Pitch, bool) {
	if s == unison {
		return api.Pitch{}, true
	}
	rest := s
	take := func(bytes string) string {
		left := strings.TrimLeft(rest, bytes)
		head := rest[:len(rest)-len(left)]
		rest = left
		return head
	}
	var p api.Pitch
	last := -1
	for more := true; more; more = take("*") != "" {
		i, e := readTerm(take)
		if i <= last {
			return api.Pitch{}, false
		}
		p[i], last = e, i
	}
	// What was read so far may also be of another form, such as 2^1 or 2^2/2, or
	// not be a pitch's, such as 2^1/5; and something else may follow.
	if !Valid(p) || text(p) != s {
		return api.Pitch{}, false
	}
	return p, true
}

// readTerm returns the index of the prime and the exponent, in twelfths, of the
// term that take takes, piece by piece; the index is -1 if there is no such term.
func readTerm(take func(bytes string) string) (int, int) {
	i := index(take(digits))
	n, d := 1, 1
	if take("^") != "" {
		n = number(take("-") + take(digits))
		if take("/") != "" {
			d = number(take(digits))
		}
	}
	if d == 0 {
		return -1, 0
	}
	return i, n * unit / d
}

// index returns the index of the prime with the text s, or -1.
func index(s string) int {
	for i, prime := range primes {
		if strconv.Itoa(prime) == s {
			return i
		}
	}
	return -1
}

// number returns the integer s, or 0 if no exponent of a pitch has this part.
func number(s string) int {
	n, wrong := strconv.Atoi(s)
	if wrong != nil || n < -api.MaxPart || n > api.MaxPart {
		return 0
	}
	return n
}
