package comma

import (
	"slices"

	"schisma/api"
	"schisma/pitch"
)

// proper reports whether n is a named comma.
func proper(n api.Named) bool {
	return len(n.Name) > 0 && len(n.Name) <= api.MaxName && all([]byte(n.Name), small) && pitch.Interval(n.V)
}

// small reports whether b is a small letter.
func small(b byte) bool {
	return 'a' <= b && b <= 'z'
}

// counted reports whether counts are an account of the list.
func counted(list []api.Named, counts []int) bool {
	return len(counts) == len(list) && all(counts, inside)
}

// inside reports whether n may be a count of an account.
func inside(n int) bool {
	return -api.MaxCount <= n && n <= api.MaxCount
}

// taken reports whether takes are valid for the list.
func taken(list []api.Named, takes []api.Take) bool {
	if len(takes) > api.MaxSections-1 {
		return false
	}
	for i, t := range takes {
		if t.Section != i+1 || t.Comma < 0 || t.Comma >= len(list) || t.Desk < 0 || t.Desk >= api.MaxDesks {
			return false
		}
		if t.Count < -1 || t.Count > 1 || t.Count == 0 && t.Comma != 0 {
			return false
		}
	}
	return true
}

// all reports whether each element of a list is as is says.
func all[E any](list []E, is func(E) bool) bool {
	return !slices.ContainsFunc(list, func(e E) bool { return !is(e) })
}
