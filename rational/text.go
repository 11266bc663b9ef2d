package rational

import (
	"strconv"
	"strings"

	"schisma/api"
)

// text returns the text of a.
func text(a api.Rat) string {
	if a.D == 1 {
		return strconv.Itoa(a.N)
	}
	return strconv.Itoa(a.N) + "/" + strconv.Itoa(a.D)
}

// read returns the number whose text is s, and whether there is one.
func read(s string) (api.Rat, bool) {
	above, below, divided := strings.Cut(s, "/")
	if !divided {
		below = "1"
	}
	n, wrongAbove := strconv.Atoi(above)
	d, wrongBelow := strconv.Atoi(below)
	a := api.Rat{N: n, D: d}
	// Other forms of a number, such as 007, +7, -0, 7/1 or 14/2, have values, too.
	if wrongAbove != nil || wrongBelow != nil || !Valid(a) || text(a) != s {
		return api.Rat{}, false
	}
	return a, true
}
