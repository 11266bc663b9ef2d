package board

import (
	"cmp"
	"slices"

	"schisma/api"
	"schisma/pitch"
	"schisma/size"
)

// Bounds of keyboards that package api does not name.
const (
	mostID   = 1000
	mostX    = 1000
	mostRow  = 10
	mostSpan = 1000
)

// from reports whether n is from low to high.
func from(low, n, high int) bool {
	return low <= n && n <= high
}

// proper reports whether a key may be one of a valid keyboard.
func proper(key api.Key) bool {
	return from(1, key.ID, mostID) && from(0, key.X, mostX) && from(0, key.Row, mostRow) && pitch.Valid(key.P)
}

// A place is where a key lies.
type place struct{ x, row int }

// placeOf returns the place of a key.
func placeOf(key api.Key) place {
	return place{key.X, key.Row}
}

// compare returns a number below 0, 0 or one above 0 if a lies to the left of b, in its place, or to its right.
func compare(a, b api.Key) int {
	return cmp.Or(cmp.Compare(a.X, b.X), cmp.Compare(a.Row, b.Row))
}

// sorted returns keys from left to right.
func sorted(keys []api.Key) []api.Key {
	keys = slices.Clone(keys)
	slices.SortFunc(keys, compare)
	return keys
}

// numbers returns the IDs of keys, in their order.
func numbers(keys []api.Key) []int {
	var ids []int
	for _, key := range keys {
		ids = append(ids, key.ID)
	}
	return ids
}

// withNumbers returns the keys that have these IDs, in their order, or false if there is no key, or no further one, with one of them.
func withNumbers(b api.Board, ids []int) ([]api.Key, bool) {
	rest := map[int]api.Key{}
	for _, key := range b.Keys {
		rest[key.ID] = key
	}
	var keys []api.Key
	for _, id := range ids {
		key, ok := rest[id]
		if !ok {
			return nil, false
		}
		keys = append(keys, key)
		delete(rest, id)
	}
	return keys, true
}

// playing returns the keys of a valid keyboard that play a valid interval.
func playing(b api.Board, v api.Vec) []api.Key {
	p, _ := pitch.Of(v)
	var keys []api.Key
	for _, key := range b.Keys {
		if near, _ := size.Near(p, key.P, b.Tol); near == 1 {
			keys = append(keys, key)
		}
	}
	return keys
}
