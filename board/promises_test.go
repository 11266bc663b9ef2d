package board_test

import (
	"math/rand/v2"
	"slices"
	"testing"

	"schisma/api"
	"schisma/board"
	"schisma/pitch"
	"schisma/size"
)

// TestP10_2Found checks that each key that is near an interval is found, and no other one.
func TestP10_2Found(t *testing.T) {
	r := source()
	var count [3]int
	for _, b := range drawBoards(r, 200) {
		for _, v := range pool() {
			ids, e := board.Find(b, v)
			if e != api.OK || !slices.IsSorted(ids) || !different(ids) {
				t.Fatalf("Find of %v, %v: %v, %v", b, v, ids, e)
			}
			found := 0
			for _, k := range b.Keys {
				p, _ := pitch.Of(v)
				near, e := size.Near(p, k.P, b.Tol)
				if slices.Contains(ids, k.ID) != (near == 1) || e != api.OK {
					t.Errorf("Find of %v, %v: %v, but %d is %d", b, v, ids, k.ID, near)
				}
				count[near+1]++
				if near == 1 {
					found++
				}
			}
			if found != len(ids) {
				t.Errorf("Find of %v, %v: %v", b, v, ids)
			}
		}
	}
	if min(count[0], count[2]) < 1000 || count[1] == 0 {
		t.Errorf("too few of a kind: %v", count)
	}
}

// TestP10_3Hands checks that hands have the keys once each, in order, at most five in a hand, and at most Span apart.
func TestP10_3Hands(t *testing.T) {
	r := source()
	count := 0
	for _, b := range drawBoards(r, 300) {
		for n := range 12 {
			ids := drawIDs(r, b, n)
			left, right, e := board.Hands(b, ids)
			if e != api.OK {
				continue
			}
			count++
			all := slices.Concat(left, right)
			if !slices.Equal(slices.Sorted(slices.Values(all)), slices.Sorted(slices.Values(ids))) {
				t.Errorf("Hands of %v, %v: %v, %v", b, ids, left, right)
			}
			for i := range all {
				if i > 0 && !isLeftOf(keyOf(b, all[i-1]), keyOf(b, all[i])) {
					t.Errorf("Hands of %v, %v: %v, %v are not in order", b, ids, left, right)
				}
			}
			for _, hand := range [][]int{left, right} {
				if len(hand) > 5 || len(hand) > 0 && keyOf(b, hand[len(hand)-1]).X-keyOf(b, hand[0]).X > b.Span {
					t.Errorf("Hands of %v, %v: %v, %v cannot be played", b, ids, left, right)
				}
			}
			if len(left) == 0 && len(ids) > 0 {
				t.Errorf("Hands of %v, %v: the right hand has all", b, ids)
			}
		}
	}
	if count < 1000 {
		t.Errorf("only %d hands", count)
	}
}

// isLeftOf reports whether a lies to the left of b.
func isLeftOf(a, b api.Key) bool {
	return a.X < b.X || a.X == b.X && a.Row < b.Row
}

// TestP10_3Parts checks that each part of keys that can be reached can be reached.
func TestP10_3Parts(t *testing.T) {
	r := source()
	count := 0
	for _, b := range drawBoards(r, 100) {
		for n := 2; n < 9; n++ {
			ids := drawIDs(r, b, n)
			if _, _, e := board.Hands(b, ids); e != api.OK {
				continue
			}
			for bits := range 1 << len(ids) {
				var some []int
				for i, id := range ids {
					if bits>>i&1 == 1 {
						some = append(some, id)
					}
				}
				if _, _, e := board.Hands(b, some); e != api.OK {
					t.Errorf("%v: %v can be reached, but %v cannot", b, ids, some)
				}
				count++
			}
		}
	}
	if count < 5000 {
		t.Errorf("only %d parts", count)
	}
}

// TestP10_4Chords checks what Chord returns with Find and Hands, and that no list that is less, or none at all where it returns ErrHand, could be returned.
func TestP10_4Chords(t *testing.T) {
	r := source()
	count := map[api.Errno]int{}
	for _, b := range drawBoards(r, 200) {
		for n := range 6 {
			vs := drawChord(r, b, n)
			ids, e := board.Chord(b, vs)
			count[e]++
			if e != api.OK && e != api.ErrHand {
				continue
			}
			for i, id := range ids {
				if found, _ := board.Find(b, vs[i]); !slices.Contains(found, id) {
					t.Errorf("Chord of %v, %v: %v, but %d does not play %v", b, vs, ids, id, vs[i])
				}
			}
			if _, _, f := board.Hands(b, ids); f != api.OK || e == api.OK && len(ids) != len(vs) {
				t.Errorf("Chord of %v, %v: %v, which cannot be reached", b, vs, ids)
			}
			if less := playedBefore(b, vs, nil, ids, e != api.OK); less != nil {
				t.Errorf("Chord of %v, %v: %v, %v, but %v is less", b, vs, ids, e, less)
			}
		}
	}
	if min(count[api.OK], count[api.ErrHand]) < 100 {
		t.Errorf("too few of a kind: %v", count)
	}
}

// playedBefore returns a list that begins with some IDs, plays the intervals and can be reached, as Find and Hands say, and that is less than ids, or any such list. It returns nil if there is none.
func playedBefore(b api.Board, vs []api.Vec, begin, ids []int, any bool) []int {
	if !any && slices.Compare(begin, ids) >= 0 {
		return nil
	}
	if len(begin) == len(vs) {
		if _, _, e := board.Hands(b, begin); e == api.OK {
			return begin
		}
		return nil
	}
	found, _ := board.Find(b, vs[len(begin)])
	for _, id := range found {
		if list := playedBefore(b, vs, append(slices.Clone(begin), id), ids, any); list != nil {
			return list
		}
	}
	return nil
}

// playable is a keyboard with a chord that it plays, and the keys that Chord returns for it.
type playable struct {
	b   api.Board
	vs  []api.Vec
	ids []int
}

// playables returns chords that are played, of one note and more.
func playables(r *rand.Rand, t *testing.T) []playable {
	var list []playable
	for _, b := range drawBoards(r, 300) {
		for n := 1; n < 7; n++ {
			vs := drawChord(r, b, n)
			if ids, e := board.Chord(b, vs); e == api.OK {
				list = append(list, playable{b, vs, ids})
			}
		}
	}
	if len(list) < 300 {
		t.Errorf("only %d chords", len(list))
	}
	return list
}

// TestP10_5FewerNotes checks that a chord that is played is also played without one of its notes, by the same keys or a list that is less.
func TestP10_5FewerNotes(t *testing.T) {
	for _, x := range playables(source(), t) {
		for i := range x.vs {
			vs, same := slices.Delete(slices.Clone(x.vs), i, i+1), slices.Delete(slices.Clone(x.ids), i, i+1)
			if ids, e := board.Chord(x.b, vs); e != api.OK || slices.Compare(ids, same) > 0 {
				t.Errorf("%v plays %v, and %v with %v, %v", x.b, x.vs, vs, ids, e)
			}
		}
	}
}

// TestP10_6Span checks that a chord that is played is also played with a greater Span, by the same keys or a list that is less.
func TestP10_6Span(t *testing.T) {
	r := source()
	less := 0
	for _, x := range playables(r, t) {
		for _, span := range []int{x.b.Span + 1, x.b.Span + 10, x.b.Span + r.IntN(1001), 1000} {
			b := x.b
			b.Span = min(span, 1000)
			ids, e := board.Chord(b, x.vs)
			if e != api.OK || slices.Compare(ids, x.ids) > 0 {
				t.Errorf("%v plays %v with %v, and with the Span %d: %v, %v", x.b, x.vs, x.ids, span, ids, e)
			}
			if slices.Compare(ids, x.ids) < 0 {
				less++
			}
		}
	}
	if less < 30 {
		t.Errorf("only %d lists are less", less)
	}
}

// TestP10_6Tol checks that a chord that is played is also played with a greater Tol, unless there are too many lists.
func TestP10_6Tol(t *testing.T) {
	r := source()
	count := map[api.Errno]int{}
	for _, x := range playables(r, t) {
		for _, tol := range []int{x.b.Tol + 1, x.b.Tol + 3000, x.b.Tol + r.IntN(50001), 50000} {
			b := x.b
			b.Tol = min(tol, 50000)
			ids, e := board.Chord(b, x.vs)
			count[e]++
			if e != api.OK && e != api.ErrLimit || e == api.OK && slices.Compare(ids, x.ids) > 0 {
				t.Errorf("%v plays %v with %v, and with the Tol %d: %v, %v", x.b, x.vs, x.ids, tol, ids, e)
			}
		}
	}
	if count[api.OK] < 300 || count[api.ErrLimit] == 0 {
		t.Errorf("too few of a kind: %v", count)
	}
}

// further returns a keyboard with a further key, or false if there is no place for it.
func further(r *rand.Rand, b api.Board) (api.Board, bool) {
	key := api.Key{ID: 1 + r.IntN(1000), X: r.IntN(1001), Row: r.IntN(11), P: pure(pool()[r.IntN(len(pool()))])}
	if len(b.Keys) > 0 && r.IntN(2) == 0 {
		key.P = b.Keys[r.IntN(len(b.Keys))].P
	}
	b.Keys = append(slices.Clone(b.Keys), key)
	slices.SortFunc(b.Keys, func(k, l api.Key) int { return k.ID - l.ID })
	return b, wantValid(b)
}

// TestP10_6FurtherKeys checks that a chord that is played is also played with a further key, unless there are too many lists.
func TestP10_6FurtherKeys(t *testing.T) {
	r := source()
	count := map[api.Errno]int{}
	for _, x := range playables(r, t) {
		b := x.b
		for range 5 {
			more, ok := further(r, b)
			if !ok {
				continue
			}
			ids, e := board.Chord(more, x.vs)
			count[e]++
			if e != api.OK && e != api.ErrLimit || e == api.OK && slices.Compare(ids, x.ids) > 0 {
				t.Errorf("%v plays %v with %v, and %v with %v, %v", x.b, x.vs, x.ids, more, ids, e)
			}
			b = more
		}
	}
	if count[api.OK] < 300 {
		t.Errorf("too few of a kind: %v", count)
	}
	full := scaleOf(10)
	expectChord(t, full, octaves(4), []int{1, 2, 3, 4}, api.OK)
	expectChord(t, scaleOf(11), octaves(4), nil, api.ErrLimit)
}

// expectSame checks that two keyboards have the same keys for intervals, hands and chords, of which those of the second one are moved by an interval.
func expectSame(t *testing.T, r *rand.Rand, b, other api.Board, by api.Vec) {
	t.Helper()
	expectValid(t, other, true)
	var some, moved []api.Vec
	for _, v := range pool() {
		if to := plus(v, by); intervalFits(to) {
			some, moved = append(some, v), append(moved, to)
		}
	}
	for i, v := range some {
		ids, e := board.Find(b, v)
		expectFind(t, other, moved[i], ids, e)
	}
	for n := range 8 {
		ids := drawIDs(r, b, n)
		left, right, e := board.Hands(b, ids)
		expectHands(t, other, ids, left, right, e)
		vs := make([]api.Vec, 0, n)
		to := make([]api.Vec, 0, n)
		for range min(n, 5) {
			i := r.IntN(len(some))
			vs, to = append(vs, some[i]), append(to, moved[i])
		}
		ids, e = board.Chord(b, vs)
		expectChord(t, other, to, ids, e)
	}
}

// TestP10_7Place checks that everything stays as it was if all keys are moved by the same X.
func TestP10_7Place(t *testing.T) {
	r := source()
	count := 0
	for _, b := range drawBoards(r, 200) {
		low, high := 1000, 0
		for _, k := range b.Keys {
			low, high = min(low, k.X), max(high, k.X)
		}
		for _, by := range []int{-low, 1000 - high, 1, -1, r.IntN(1001) - low} {
			if by < -low || by > 1000-high {
				continue
			}
			expectSame(t, r, b, with(b, func(b *api.Board) {
				for i := range b.Keys {
					b.Keys[i].X += by
				}
			}), api.Vec{})
			count++
		}
	}
	if count < 300 {
		t.Errorf("only %d keyboards", count)
	}
}

// TestP10_8Transposition checks that everything stays as it was if all keys and all intervals are moved by the same interval.
func TestP10_8Transposition(t *testing.T) {
	r := source()
	count := 0
	for _, b := range drawBoards(r, 200) {
		for _, by := range []api.Vec{{1}, fifth, third, {-40, 20, 3}, {30, -17, 1, 2, -3}, {0, 46}, {-28}, {0, 0, -47}, {r.IntN(60) - 30, r.IntN(60) - 30, r.IntN(60) - 30, r.IntN(60) - 30, r.IntN(60) - 30, r.IntN(60) - 30}} {
			other := with(b, func(b *api.Board) {
				for i, k := range b.Keys {
					b.Keys[i].P = times(k.P, pure(by))
				}
			})
			if !slices.ContainsFunc(other.Keys, func(k api.Key) bool { return !pitchFits(k.P) }) {
				expectSame(t, r, b, other, by)
				count++
			}
		}
	}
	if count < 500 {
		t.Errorf("only %d keyboards", count)
	}
}
