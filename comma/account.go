package comma

import (
	"iter"
	"strconv"
	"strings"

	"schisma/api"
)

// zeros is the text of the account whose counts are all 0.
const zeros = "1"

// An account has the count of each named comma of a list, by its name.
type account map[string]int

// accountOf returns the account of a list that has these counts.
func accountOf(list []api.Named, counts []int) account {
	a := account{}
	for i, n := range list {
		a[n.Name] = counts[i]
	}
	return a
}

// counts returns the counts in the order of the list.
func (a account) counts(list []api.Named) []int {
	var counts []int
	for _, n := range list {
		counts = append(counts, a[n.Name])
	}
	return counts
}

// text returns the text of the account.
func (a account) text(list []api.Named) string {
	var parts []string
	for _, n := range list {
		if count := a[n.Name]; count != 0 {
			parts = append(parts, n.Name+"*"+strconv.Itoa(count))
		}
	}
	if len(parts) == 0 {
		return zeros
	}
	return strings.Join(parts, " ")
}

// read returns the account of the entries of s, as far as they can be read, up to the first one that names no comma of the list: so no string makes the account longer than the list.
func read(list []api.Named, s string) account {
	a := accountOf(list, make([]int, len(list)))
	for name, count := range entries(s) {
		if _, known := a[name]; !known {
			break
		}
		a[name] = count
	}
	return a
}

// entries yields the entries of a text: what stands before the first star, and the count behind it. What is no integer counts as 0, and what is no int as the greatest or the least one.
func entries(s string) iter.Seq2[string, int] {
	return func(yield func(string, int) bool) {
		entry, rest, more := strings.Cut(s, " ")
		for {
			name, digits, _ := strings.Cut(entry, "*")
			count, _ := strconv.Atoi(digits)
			if !yield(name, count) || !more {
				return
			}
			entry, rest, more = strings.Cut(rest, " ")
		}
	}
}
