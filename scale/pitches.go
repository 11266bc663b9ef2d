package scale

import (
	"slices"
	"sort"

	"schisma/api"
	"schisma/pitch"
)

// unison and octave are the pitches between which scales lie.
var (
	unison = api.Pitch{}
	octave = api.Pitch{12}
)

// compare returns -1, 0 or 1 if a is lower than, equal to or higher than b, and 0 if one of them is no valid pitch.
func compare(a, b api.Pitch) int {
	order, _ := pitch.Cmp(a, b)
	return order
}

// lower reports whether a and b are valid pitches, and a is lower than b.
func lower(a, b api.Pitch) bool {
	return compare(a, b) < 0
}

// next returns the pitch of the degree behind i, or the octave.
func next(s []api.Pitch, i int) api.Pitch {
	if i == len(s)-1 {
		return octave
	}
	return s[i+1]
}

// raised returns p times the octave to the power n, which may be no valid pitch.
func raised(p api.Pitch, n int) api.Pitch {
	p[0] += n * octave[0]
	return p
}

// quotient returns that of a and b, which may be no valid pitch.
func quotient(a, b api.Pitch) api.Pitch {
	for c, e := range b {
		a[c] -= e
	}
	return a
}

// checked returns list, or ErrRange if one of it is no valid pitch.
func checked(list []api.Pitch) ([]api.Pitch, api.Errno) {
	if slices.ContainsFunc(list, func(p api.Pitch) bool { return !pitch.Valid(p) }) {
		return nil, api.ErrRange
	}
	return list, api.OK
}

// octaves returns by how many octaves a valid pitch must be lowered, at least, to be lower than the octave. Only what leads to valid pitches is tried: if all of these are too high, the result leads to no valid pitch, and if all are too low, to one that is lower than the unison.
func octaves(p api.Pitch) int {
	least, most := (p[0]-api.MaxPart)/octave[0], (p[0]+api.MaxPart)/octave[0]
	return least + sort.Search(most-least+1, func(i int) bool { return lower(raised(p, -least-i), octave) })
}

// powers returns the pitches within the octave that the first n powers of a valid pitch have, or ErrRange.
func powers(g api.Pitch, n int) ([]api.Pitch, api.Errno) {
	var list []api.Pitch
	for i := range n {
		p, e := pitch.Power(g, i, 1)
		if e != api.OK {
			return nil, e
		}
		q, _, e := Octave(p)
		if e != api.OK {
			return nil, e
		}
		list = append(list, q)
	}
	return list, api.OK
}

// within returns p within the octave, and by how many octaves it is higher, or ErrArg if s is no valid scale.
func within(s []api.Pitch, p api.Pitch) (api.Pitch, int, api.Errno) {
	if !Valid(s) {
		return api.Pitch{}, 0, api.ErrArg
	}
	return Octave(p)
}

// notAbove returns the highest degree of a valid scale that is not higher than q, a pitch within the octave.
func notAbove(s []api.Pitch, q api.Pitch) int {
	return sort.Search(len(s), func(i int) bool { return lower(q, s[i]) }) - 1
}
