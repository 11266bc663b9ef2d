package board

import (
	"slices"

	"schisma/api"
)

// fingers is how many keys a hand has at most.
const fingers = 5

// divide returns keys, from left to right, as the left hand's and the right hand's, with as many of the left hand's as possible, or false if they cannot be reached.
func divide(keys []api.Key, span int) (left, right []api.Key, possible bool) {
	keys = sorted(keys)
search:
	for n := min(len(keys), fingers); n >= 0; n-- {
		for _, hand := range [][]api.Key{keys[:n], keys[n:]} {
			if !fits(hand, span) {
				continue search
			}
		}
		return keys[:n], keys[n:], true
	}
	return nil, nil, false
}

// fits reports whether one hand can have some keys, which are sorted.
func fits(hand []api.Key, span int) bool {
	return len(hand) == 0 || len(hand) <= fingers && hand[len(hand)-1].X-hand[0].X <= span
}

// choicesOf returns the keys that play each of some valid intervals, or the error that comes of how many these are.
func choicesOf(b api.Board, vs []api.Vec) ([][]api.Key, api.Errno) {
	var choices [][]api.Key
	lists := 1
	for _, v := range vs {
		keys := playing(b, v)
		if len(keys) == 0 {
			return nil, api.ErrNone
		}
		// A product beyond the limit stays there, as no factor is 0. There may be many intervals: no more choices are kept than a chord can have.
		lists = min(lists*len(keys), api.MaxLists+1)
		if len(choices) < api.MaxChord {
			choices = append(choices, keys)
		}
	}
	if len(vs) > api.MaxChord || lists > api.MaxLists {
		return nil, api.ErrLimit
	}
	return choices, api.OK
}

// first returns the first list of different keys, one of each of the choices in their order, that can be reached, or false if there is none.
func first(choices [][]api.Key, span int) ([]api.Key, bool) {
	var chosen []api.Key
	var choose func(rest [][]api.Key) bool
	choose = func(rest [][]api.Key) bool {
		// Keys that cannot be reached are not tried with others: they could not be reached with these either.
		_, _, possible := divide(chosen, span)
		if !possible || len(rest) == 0 {
			return possible
		}
		for _, key := range rest[0] {
			if slices.Contains(chosen, key) {
				continue
			}
			chosen = append(chosen, key)
			if choose(rest[1:]) {
				return true
			}
			chosen = chosen[:len(chosen)-1]
		}
		return false
	}
	found := choose(choices)
	return chosen, found
}
