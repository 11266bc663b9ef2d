package temper

import (
	"slices"

	"schisma/api"
	"schisma/pitch"
)

// A temperament is a valid map with its operations.
type temperament struct {
	api.Map
}

// temperamentFor returns the temperament of m, or ErrArg if m is none or v is not a valid interval.
func temperamentFor(m api.Map, v api.Vec) (temperament, api.Errno) {
	if !Valid(m) || !pitch.Interval(v) {
		return temperament{}, api.ErrArg
	}
	return temperament{Map: m}, api.OK
}

// image returns the image of an interval.
func (t temperament) image(v api.Vec) []int {
	var list []int
	for _, row := range t.Rows {
		n := 0
		for c, e := range row {
			n += e * v[c]
		}
		list = append(list, n)
	}
	return list
}

// tuned returns the product of the generators to the powers of the image of v. These are too great for the powers of package pitch, also where the product is a valid pitch.
func tuned(v api.Vec, image func(api.Vec) []int, gens []api.Pitch) api.Pitch {
	var p api.Pitch
	for i, n := range image(v) {
		for c, e := range gens[i] {
			p[c] += n * e
		}
	}
	return p
}

// all reports whether each element of a list is as is says.
func all[E any](list []E, is func(E) bool) bool {
	return !slices.ContainsFunc(list, func(e E) bool { return !is(e) })
}

// inside reports whether n may be an element of a temperament.
func inside(n int) bool {
	return -api.MaxVal <= n && n <= api.MaxVal
}

// zero reports whether n is 0.
func zero(n int) bool {
	return n == 0
}
