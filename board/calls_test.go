package board_test

import (
	"slices"
	"testing"

	"schisma/api"
)

// The tests of this file check P10.1, from J1 to J4.

func TestValidExamples(t *testing.T) {
	whole := api.Pitch{part, -part, part, -part, part, -part}
	list := []api.Board{
		{}, {Span: 1000, Tol: 50000}, {Keys: []api.Key{{ID: 1}}}, example(), row(1, false), row(119, true), row(120, false), row(120, true),
		{Keys: []api.Key{{ID: 1000, X: 1000, Row: 10, P: whole}}, Span: 1000, Tol: 50000},
		{Keys: []api.Key{{ID: 1, X: 1000}, {ID: 1000, X: 0, Row: 10, P: inverse(whole)}}},
		{Keys: []api.Key{{ID: 1, X: 5, Row: 1}, {ID: 2, X: 1, Row: 5}, {ID: 3, X: 5, Row: 5}, {ID: 4, X: 1, Row: 1}}}, // each X and each Row twice
		{Keys: []api.Key{{ID: 1, X: 0, Row: 10}, {ID: 2, X: 10, Row: 0}, {ID: 3, X: 1, Row: 0}, {ID: 4, X: 0, Row: 1}, {ID: 5, X: 11}, {ID: 6, X: 0}}},
		placed(0, 3, 3, 3, 3, 3, 3, 3, 3, 3, 3, 3), placed(0, 9, 5, 1),
	}
	for _, b := range list {
		expectValid(t, b, true)
		if !wantValid(b) {
			t.Errorf("%v is not to be valid", b)
		}
	}
	for _, b := range noBoards() {
		expectValid(t, b, false)
		if wantValid(b) {
			t.Errorf("%v is to be valid", b)
		}
	}
}

// TestValidBounds checks all numbers of keys, and each number of a key or a keyboard about its bounds.
func TestValidBounds(t *testing.T) {
	for n := range 130 {
		expectValid(t, row(n, n%2 == 0), n <= 120)
	}
	for n := -3; n <= 1003; n++ {
		expectValid(t, api.Board{Keys: []api.Key{{ID: n}}}, 1 <= n && n <= 1000)
		expectValid(t, api.Board{Keys: []api.Key{{ID: 1, X: n}}}, 0 <= n && n <= 1000)
		expectValid(t, api.Board{Keys: []api.Key{{ID: 1, Row: n}}}, 0 <= n && n <= 10)
		expectValid(t, api.Board{Span: n}, 0 <= n && n <= 1000)
		expectValid(t, api.Board{Tol: n}, 0 <= n)
		expectValid(t, api.Board{Tol: 49500 + n}, n <= 500)
		for c := range 6 {
			p := api.Pitch{1, 1, 1, 1, 1, 1}
			p[c] = n
			expectValid(t, api.Board{Keys: []api.Key{{ID: 1, P: p}}}, n <= 576)
			expectValid(t, api.Board{Keys: []api.Key{{ID: 1, P: inverse(p)}}}, n <= 576)
		}
	}
}

// TestValidPairs checks two keys among others, with equal and different IDs and places.
func TestValidPairs(t *testing.T) {
	for _, n := range []int{2, 3, 30, 120} {
		b := row(n, true)
		for _, i := range []int{0, 1, n / 2, n - 2} {
			for j := i + 1; j < n; j++ {
				other := b.Keys[j]
				expectValid(t, withKey(b, i, func(k *api.Key) { k.X, k.Row = other.X, other.Row }), false)
				expectValid(t, withKey(b, i, func(k *api.Key) { k.X, k.Row = other.X, 9 }), true)
				expectValid(t, withKey(b, i, func(k *api.Key) { k.X, k.Row = 500, other.Row }), true)
				expectValid(t, withKey(b, i, func(k *api.Key) { k.P = other.P }), true)
				expectValid(t, withKey(b, i, func(k *api.Key) { k.ID = other.ID }), false)
				expectValid(t, withKey(b, i, func(k *api.Key) { k.ID = other.ID + 200 }), false)
				expectValid(t, with(b, func(b *api.Board) { b.Keys[i], b.Keys[j] = b.Keys[j], b.Keys[i] }), false)
			}
		}
	}
}

func TestValid(t *testing.T) {
	r := source()
	var count [2]int
	for _, b := range drawBoards(r, 400) {
		expectValid(t, b, true)
		if len(b.Keys) < 2 {
			continue
		}
		i, j := r.IntN(len(b.Keys)), r.IntN(len(b.Keys))
		other := withKey(b, i, func(k *api.Key) {
			switch r.IntN(4) {
			case 0:
				k.X = b.Keys[j].X
			case 1:
				k.Row = b.Keys[j].Row
			case 2:
				k.ID = b.Keys[j].ID + r.IntN(3) - 1
			default:
				k.X, k.Row = b.Keys[j].X, b.Keys[j].Row
			}
		})
		want := wantValid(other)
		expectValid(t, other, want)
		if want {
			count[0]++
		} else {
			count[1]++
		}
	}
	if min(count[0], count[1]) < 60 {
		t.Errorf("too few of a kind: %v", count)
	}
}

func TestFindExamples(t *testing.T) {
	b := example()
	for _, x := range []struct {
		v    api.Vec
		want []int
	}{
		{third, []int{3}}, {api.Vec{1, 1, -1}, nil}, {api.Vec{}, []int{1}}, {fifth, []int{4}}, {api.Vec{1}, []int{5}}, {api.Vec{-1}, nil}, {api.Vec{2}, nil}, {api.Vec{-2, 0, 0, 1}, nil}, {api.Vec{-3, 2}, []int{2}}, {api.Vec{1, -2, 1}, nil}, {api.Vec{48, 48, 48, 48, 48, 48}, nil}, {api.Vec{-48, -48, -48, -48, -48, -48}, nil},
	} {
		expectFind(t, b, x.v, x.want, api.OK)
	}
	expectFind(t, api.Board{}, third, nil, api.OK)
	expectFind(t, with(b, func(b *api.Board) { b.Tol = 15641 }), api.Vec{1, 1, -1}, nil, api.OK)
	expectFind(t, with(b, func(b *api.Board) { b.Tol = 15642 }), api.Vec{1, 1, -1}, []int{6}, api.OK)
	expectFind(t, with(b, func(b *api.Board) { b.Tol = 21507 }), api.Vec{1, -2, 1}, []int{2}, api.OK)
}

// TestFindTolerance checks pitches that are near with one tolerance, and not with one that is less by a millicent: on both sides of an interval, and at different places.
func TestFindTolerance(t *testing.T) {
	for _, x := range []struct {
		apart api.Pitch
		least int
	}{
		// The greatest distance is exactly the tolerance.
		{api.Pitch{13, -8}, 32030}, {api.Pitch{32, -20}, 30075}, {api.Pitch{51, 4, -10, -12}, 43231}, {api.Pitch{-58, 21, 1, 8}, 6498},
		// With one less it is not sure whether they are near.
		{api.Pitch{-19, 12}, 1956}, {api.Pitch{-22, -4, 5, 6}, 11393}, {api.Pitch{39, 0, -13, -3}, 39288}, {api.Pitch{-6, 4}, 33986},
		// With one less they are surely not near.
		{api.Pitch{-48, 48, -12}, 21507}, {api.Pitch{-228, 144}, 23461}, {api.Pitch{}, 0},
	} {
		for _, v := range append(pool(), api.Vec{40, -30, 20}, api.Vec{0, 0, 0, -40, 40}) {
			for _, p := range []api.Pitch{x.apart, inverse(x.apart)} {
				p = times(pure(v), p)
				if !pitchFits(p) {
					continue
				}
				b := api.Board{Keys: []api.Key{{ID: 7, P: p}}, Tol: x.least}
				expectFind(t, b, v, []int{7}, api.OK)
				b.Tol = min(b.Tol+1, 50000)
				expectFind(t, b, v, []int{7}, api.OK)
				b.Tol = x.least - 1
				if b.Tol >= 0 {
					expectFind(t, b, v, nil, api.OK)
				}
			}
		}
	}
}

// TestFindOrder checks that IDs rise, wherever the keys lie and whatever their pitches are.
func TestFindOrder(t *testing.T) {
	expectFind(t, placed(0, 9, 1, 5, 0), api.Vec{}, []int{10, 20, 30, 40}, api.OK)
	b := row(40, true)
	b.Tol = 50000
	var all, even []int
	for i := range b.Keys {
		all = append(all, i+1)
		b.Keys[i].P = api.Pitch{-19 * (20 - i), 12 * (20 - i)}
	}
	expectFind(t, b, api.Vec{}, all, api.OK)
	for i := range b.Keys {
		if i%2 == 0 {
			even = append(even, i+1)
		} else {
			b.Keys[i].P = api.Pitch{12}
		}
	}
	expectFind(t, b, api.Vec{}, even, api.OK)
}

func TestFind(t *testing.T) {
	r := source()
	count := 0
	for _, b := range drawBoards(r, 200) {
		for _, v := range append(pool(), api.Vec{-4, 4, -1}, api.Vec{r.IntN(3), r.IntN(3), -r.IntN(3), r.IntN(2), r.IntN(2), -r.IntN(2)}) {
			want := wantFind(b, v)
			expectFind(t, b, v, want, api.OK)
			if len(want) > 1 {
				count++
			}
		}
	}
	if count < 200 {
		t.Errorf("only %d intervals have more than one key", count)
	}
}

func TestFindErrors(t *testing.T) {
	for _, b := range noBoards() {
		expectFind(t, b, fifth, nil, api.ErrArg)
	}
	for _, v := range noIntervals() {
		expectFind(t, example(), v, nil, api.ErrArg)
		expectFind(t, api.Board{}, v, nil, api.ErrArg)
	}
}

func TestHandsExamples(t *testing.T) {
	b := example()
	for _, x := range []struct{ ids, left, right []int }{
		{[]int{4, 5, 1}, []int{1, 4}, []int{5}}, {[]int{6, 3}, []int{3, 6}, nil}, {nil, nil, nil}, {[]int{5}, []int{5}, nil}, {[]int{1}, []int{1}, nil}, {[]int{5, 1}, []int{1}, []int{5}},
		{[]int{6, 5, 4, 3, 2, 1}, []int{1, 2, 3, 6, 4}, []int{5}}, {[]int{1, 2, 3, 4, 6}, []int{1, 2, 3, 6, 4}, nil}, {[]int{6, 4, 3, 5}, []int{3, 6, 4}, []int{5}},
	} {
		expectHands(t, b, x.ids, x.left, x.right, api.OK)
		if left, right, e := wantHands(b, x.ids); !slices.Equal(left, x.left) || !slices.Equal(right, x.right) || e != api.OK {
			t.Errorf("%v is to have %v and %v", x.ids, left, right)
		}
	}
	b.Span = 29
	expectHands(t, b, []int{4, 1}, []int{1}, []int{4}, api.OK)
	expectHands(t, b, []int{4, 1, 5}, nil, nil, api.ErrHand)
	expectHands(t, b, []int{4, 3, 5}, []int{3, 4}, []int{5}, api.OK)
}

// TestHandsNumbers checks hands of different numbers of keys: one hand takes five of them, and two take ten.
func TestHandsNumbers(t *testing.T) {
	for _, falls := range []bool{false, true} {
		b := row(120, falls)
		for n := range 121 {
			var ids []int
			for i := range n {
				ids = append(ids, i+1)
			}
			if n > 10 {
				expectHands(t, b, ids, nil, nil, api.ErrHand)
				continue
			}
			sorted := leftToRight(b, ids)
			expectHands(t, b, ids, sorted[:min(n, 5)], sorted[min(n, 5):], api.OK)
			slices.Reverse(ids)
			expectHands(t, b, ids, sorted[:min(n, 5)], sorted[min(n, 5):], api.OK)
		}
	}
}

// TestHandsSpan checks keys that are exactly as far apart as a hand reaches, and further.
func TestHandsSpan(t *testing.T) {
	for _, x := range []struct {
		span            int
		xs, left, right []int
	}{
		{10, []int{0, 10}, []int{10, 20}, nil}, {9, []int{0, 10}, []int{10}, []int{20}}, {0, []int{0, 1}, []int{10}, []int{20}}, {0, []int{1, 0}, []int{20}, []int{10}}, {1000, []int{1000, 0}, []int{20, 10}, nil}, {999, []int{1000, 0}, []int{20}, []int{10}},
		{10, []int{0, 10, 20}, []int{10, 20}, []int{30}}, {10, []int{0, 11, 20}, []int{10}, []int{20, 30}}, {10, []int{0, 9, 20, 30}, []int{10, 20}, []int{30, 40}}, {10, []int{0, 10, 20, 30}, []int{10, 20}, []int{30, 40}}, {10, []int{30, 20, 10, 0}, []int{40, 30}, []int{20, 10}}, {10, []int{0, 10, 21, 32}, nil, nil}, {10, []int{0, 11, 22}, nil, nil}, {10, []int{0, 11, 21, 22}, nil, nil}, {10, []int{0, 11, 21, 21}, []int{10}, []int{20, 30, 40}},
		{0, []int{4, 4, 4}, []int{10, 20, 30}, nil}, {0, []int{4, 4, 4, 4, 4, 4}, []int{10, 20, 30, 40, 50}, []int{60}}, {0, []int{4, 5, 4, 5}, []int{10, 30}, []int{20, 40}}, {0, []int{4, 5, 6}, nil, nil}, {0, []int{5, 5, 5, 5, 5, 4}, []int{60}, []int{10, 20, 30, 40, 50}}, {0, []int{5, 5, 5, 5, 5, 5, 4}, nil, nil}, {0, []int{4, 5, 4, 4, 4, 4}, []int{10, 30, 40, 50, 60}, []int{20}}, {0, []int{4, 5, 4, 4, 4, 4, 4}, nil, nil},
		// The right hand has all that the left one cannot have, and no more than five.
		{50, []int{0, 51, 52, 53, 54, 55}, []int{10}, []int{20, 30, 40, 50, 60}}, {50, []int{0, 51, 52, 53, 54, 55, 56}, nil, nil}, {50, []int{0, 50, 52, 53, 54, 55, 56}, []int{10, 20}, []int{30, 40, 50, 60, 70}},
		{50, []int{0, 1, 2, 3, 4, 5}, []int{10, 20, 30, 40, 50}, []int{60}}, {4, []int{0, 1, 2, 3, 4, 8}, []int{10, 20, 30, 40, 50}, []int{60}}, {3, []int{0, 1, 2, 3, 4, 7}, []int{10, 20, 30, 40}, []int{50, 60}}, {3, []int{0, 1, 2, 3, 4, 8}, nil, nil},
	} {
		b := placed(x.span, x.xs...)
		var ids []int
		for _, k := range b.Keys {
			ids = append(ids, k.ID)
		}
		want := api.OK
		if x.left == nil {
			want = api.ErrHand
		}
		expectHands(t, b, ids, x.left, x.right, want)
		if left, right, e := wantHands(b, ids); !slices.Equal(left, x.left) || !slices.Equal(right, x.right) || e != want {
			t.Errorf("%v is to have %v and %v", b, left, right)
		}
	}
}

// TestHandsRows checks that keys at the same X lie from left to right by their rows, also if their IDs do not.
func TestHandsRows(t *testing.T) {
	b := api.Board{Keys: []api.Key{{ID: 1, X: 5, Row: 10}, {ID: 2, X: 5, Row: 3}, {ID: 3, X: 4, Row: 9}, {ID: 4, X: 5, Row: 0}, {ID: 5, X: 5, Row: 1}, {ID: 6, X: 6, Row: 0}}, Span: 2}
	expectHands(t, b, []int{1, 2, 3, 4, 5, 6}, []int{3, 4, 5, 2, 1}, []int{6}, api.OK)
	expectHands(t, b, []int{6, 2, 1, 4}, []int{4, 2, 1, 6}, nil, api.OK)
	b.Span = 0
	expectHands(t, b, []int{1, 2, 5, 6}, []int{5, 2, 1}, []int{6}, api.OK)
	expectHands(t, b, []int{1, 2, 3, 5}, []int{3}, []int{5, 2, 1}, api.OK)
	expectHands(t, b, []int{1, 2, 3, 5, 6}, nil, nil, api.ErrHand)
}

func TestHands(t *testing.T) {
	r := source()
	count := map[api.Errno]int{}
	for _, b := range drawBoards(r, 300) {
		for n := range 12 {
			ids := drawIDs(r, b, n)
			left, right, e := wantHands(b, ids)
			expectHands(t, b, ids, left, right, e)
			if len(ids) > 2 {
				count[e]++
			}
		}
	}
	if min(count[api.OK], count[api.ErrHand]) < 200 {
		t.Errorf("too few of a kind: %v", count)
	}
}

func TestHandsErrors(t *testing.T) {
	for _, b := range noBoards() {
		expectHands(t, b, nil, nil, nil, api.ErrArg)
		expectHands(t, b, []int{10}, nil, nil, api.ErrArg)
	}
	b := example()
	for _, ids := range [][]int{{0}, {7}, {-1}, {1000}, {1001}, {1, 2, 7}, {7, 1, 2}, {1, 1}, {1, 2, 1}, {1, 2, 2}, {6, 5, 4, 3, 2, 1, 6}, {1, 2, 3, 4, 5, 6, 7}, far(), slices.Repeat([]int{1}, 1000)} {
		expectHands(t, b, ids, nil, nil, api.ErrArg)
		expectHands(t, with(b, func(b *api.Board) { b.Span = 0 }), slices.Concat([]int{1, 4, 5}, ids), nil, nil, api.ErrArg)
	}
	b.Span = 0
	expectHands(t, b, []int{1, 2, 3, 4}, nil, nil, api.ErrHand)
	expectHands(t, b, []int{1, 2, 3, 4, 1}, nil, nil, api.ErrArg)
	expectHands(t, b, []int{1, 2, 3, 4, 9}, nil, nil, api.ErrArg)
	expectHands(t, api.Board{}, []int{1}, nil, nil, api.ErrArg)
	expectHands(t, api.Board{}, nil, nil, nil, api.OK)
	var all []int
	for i := range 120 {
		all = append(all, 120-i)
	}
	expectHands(t, row(120, false), all, nil, nil, api.ErrHand)
	expectHands(t, row(120, false), append(all, 60), nil, nil, api.ErrArg)
	expectHands(t, row(120, false), append(all, 121), nil, nil, api.ErrArg)
}

func TestChordExamples(t *testing.T) {
	b := example()
	for _, x := range []struct {
		vs   []api.Vec
		want []int
		e    api.Errno
	}{
		{[]api.Vec{third, {}, {1}}, []int{3, 1, 5}, api.OK}, {[]api.Vec{{}, {}}, nil, api.ErrHand}, {[]api.Vec{{}, {-2, 0, 0, 1}}, nil, api.ErrNone},
		{nil, nil, api.OK}, {[]api.Vec{}, nil, api.OK}, {[]api.Vec{{}}, []int{1}, api.OK}, {[]api.Vec{{1}}, []int{5}, api.OK}, {[]api.Vec{{}, third, fifth}, []int{1, 3, 4}, api.OK}, {[]api.Vec{fifth, third, {}}, []int{4, 3, 1}, api.OK},
		{[]api.Vec{{1}, fifth, third, {-3, 2}, {}}, []int{5, 4, 3, 2, 1}, api.OK}, {[]api.Vec{third, {}, {1}, third}, nil, api.ErrHand}, {[]api.Vec{{1, 1, -1}}, nil, api.ErrNone},
	} {
		expectChord(t, b, x.vs, x.want, x.e)
		if want, e := wantChord(b, x.vs); !slices.Equal(want, x.want) || e != x.e {
			t.Errorf("%v is to have %v, %v", x.vs, want, e)
		}
	}
	expectChord(t, api.Board{}, nil, nil, api.OK)
	expectChord(t, api.Board{}, []api.Vec{{}}, nil, api.ErrNone)
	b.Span = 29
	expectChord(t, b, []api.Vec{{}, fifth, {1}}, nil, api.ErrHand)
}

// TestChordFirst checks chords of which the first keys cannot be reached, so that later ones are taken.
func TestChordFirst(t *testing.T) {
	for _, x := range []struct {
		span     int
		xs, want []int
	}{
		{10, []int{0, 50, 100, 8, 104}, []int{10, 20, 40}}, {10, []int{0, 50, 100, 108, 109}, []int{10, 30, 40}}, {10, []int{0, 50, 150, 250, 350}, nil}, {10, []int{0, 50, 150, 250, 255, 260}, []int{10, 40, 50}}, {9, []int{0, 50, 150, 250, 255, 260}, []int{10, 40, 50}}, {4, []int{0, 50, 150, 250, 255, 260}, nil}, {4, []int{0, 50, 150, 250, 255, 259}, []int{10, 50, 60}}, {4, []int{0, 20, 40, 60, 0, 80}, []int{10, 20, 50}}, {0, []int{5, 4, 3, 5, 4, 3}, []int{10, 20, 40}},
	} {
		b := placed(x.span, x.xs...)
		want := api.OK
		if x.want == nil {
			want = api.ErrHand
		}
		expectChord(t, b, make([]api.Vec, 3), x.want, want)
		if list, e := wantChord(b, make([]api.Vec, 3)); !slices.Equal(list, x.want) || e != want {
			t.Errorf("%v is to have %v, %v", b, list, e)
		}
	}
	// Both keys, a comma apart, play the unison and what is a comma below; only the key 2 plays what is a comma above.
	b := api.Board{Keys: []api.Key{{ID: 1, P: pure(api.Vec{4, -4, 1})}, {ID: 2, X: 1}}, Tol: 22000, Span: 10}
	comma, below := api.Vec{-4, 4, -1}, api.Vec{4, -4, 1}
	expectChord(t, b, []api.Vec{{}, below}, []int{1, 2}, api.OK)
	expectChord(t, b, []api.Vec{{}, comma}, []int{1, 2}, api.OK)
	expectChord(t, b, []api.Vec{comma, {}}, []int{2, 1}, api.OK)
	expectChord(t, b, []api.Vec{{}, {}}, []int{1, 2}, api.OK)
	expectChord(t, b, []api.Vec{comma, comma}, nil, api.ErrHand)
	expectChord(t, b, []api.Vec{comma, below}, []int{2, 1}, api.OK)
	b.Tol = 21506
	expectChord(t, b, []api.Vec{{}, below}, []int{2, 1}, api.OK)
	expectChord(t, b, []api.Vec{{}, {}}, nil, api.ErrHand)
}

// scaleOf returns a keyboard with counts[i] keys for the interval of i octaves, all of them within a hand's span.
func scaleOf(counts ...int) api.Board {
	b := row(0, false)
	for i, count := range counts {
		for range count {
			n := len(b.Keys)
			b.Keys = append(b.Keys, api.Key{ID: n + 1, X: n / 11, Row: n % 11, P: api.Pitch{12 * i}})
		}
	}
	return b
}

// octaves returns a chord: times[i] times the interval of i octaves.
func octaves(times ...int) []api.Vec {
	var vs []api.Vec
	for i, n := range times {
		vs = append(vs, slices.Repeat([]api.Vec{{i}}, n)...)
	}
	return vs
}

// TestChordLimits checks numbers of notes, and of lists, at their limits and beyond.
func TestChordLimits(t *testing.T) {
	for _, x := range []struct {
		b    api.Board
		vs   []api.Vec
		want []int
		e    api.Errno
	}{
		{scaleOf(1, 1, 1, 1, 1, 1, 1, 1, 1, 1, 1, 1, 1), octaves(1, 1, 1, 1, 1, 1, 1, 1, 1, 1), []int{1, 2, 3, 4, 5, 6, 7, 8, 9, 10}, api.OK},
		{scaleOf(1, 1, 1, 1, 1, 1, 1, 1, 1, 1, 1, 1, 1), octaves(1, 1, 1, 1, 1, 1, 1, 1, 1, 1, 1), nil, api.ErrHand},
		{scaleOf(1, 1, 1, 1, 1, 1, 1, 1, 1, 1, 1, 1, 1), octaves(1, 1, 1, 1, 1, 1, 1, 1, 1, 1, 1, 1), nil, api.ErrHand},
		{scaleOf(1, 1, 1, 1, 1, 1, 1, 1, 1, 1, 1, 1, 1), octaves(1, 1, 1, 1, 1, 1, 1, 1, 1, 1, 1, 1, 1), nil, api.ErrLimit},
		{scaleOf(1), octaves(12), nil, api.ErrHand}, {scaleOf(1), octaves(13), nil, api.ErrLimit}, {scaleOf(1), octaves(100000), nil, api.ErrLimit}, {scaleOf(1), octaves(13, 1), nil, api.ErrNone}, {scaleOf(1), octaves(100000, 1), nil, api.ErrNone}, {scaleOf(0, 1), octaves(1, 13), nil, api.ErrNone},
		// 10000 lists, and what is next to it.
		{scaleOf(10), octaves(4), []int{1, 2, 3, 4}, api.OK}, {scaleOf(100), octaves(2), []int{1, 2}, api.OK}, {scaleOf(11), octaves(4), nil, api.ErrLimit}, {scaleOf(101), octaves(2), nil, api.ErrLimit}, {scaleOf(10, 10, 10, 10), octaves(1, 1, 1, 1), []int{1, 11, 21, 31}, api.OK}, {scaleOf(10, 10, 10, 11), octaves(1, 1, 1, 1), nil, api.ErrLimit},
		{scaleOf(4, 41, 61), octaves(1, 1, 1), nil, api.ErrLimit}, {scaleOf(3, 41, 61), octaves(1, 1, 1), []int{1, 4, 45}, api.OK}, {scaleOf(3, 33, 84), octaves(1, 1, 1), []int{1, 4, 37}, api.OK}, {scaleOf(80, 1, 1, 1, 1, 1), octaves(2, 1, 1, 1, 1, 1), []int{1, 2, 81, 82, 83, 84, 85}, api.OK},
		{scaleOf(10, 1, 1), octaves(4, 4, 4), nil, api.ErrHand}, {scaleOf(10, 2), octaves(4, 1), nil, api.ErrLimit}, {scaleOf(10, 1), octaves(4, 9), nil, api.ErrLimit}, {scaleOf(10, 1), octaves(4, 8), nil, api.ErrHand}, {scaleOf(120), octaves(1), []int{1}, api.OK}, {scaleOf(120), octaves(2), nil, api.ErrLimit}, {scaleOf(119, 1), octaves(1, 1), []int{1, 120}, api.OK},
		// The product is a multiple of 2^64, or leaves an int.
		{scaleOf(64), octaves(11), nil, api.ErrLimit}, {scaleOf(64), octaves(12), nil, api.ErrLimit}, {scaleOf(120), octaves(9), nil, api.ErrLimit}, {scaleOf(120), octaves(10), nil, api.ErrLimit}, {scaleOf(120), octaves(12), nil, api.ErrLimit}, {scaleOf(2), octaves(64), nil, api.ErrLimit}, {scaleOf(4), octaves(32), nil, api.ErrLimit}, {scaleOf(16), octaves(16), nil, api.ErrLimit},
		// There are too many lists, but no key plays one of the intervals.
		{scaleOf(120), octaves(2, 1), nil, api.ErrNone}, {scaleOf(0, 120), octaves(1, 2), nil, api.ErrNone}, {scaleOf(60, 0, 60), octaves(2, 1, 2), nil, api.ErrNone}, {scaleOf(64), octaves(11, 1), nil, api.ErrNone}, {scaleOf(1), octaves(12, 1), nil, api.ErrNone},
		// The same interval several times.
		{scaleOf(2), octaves(2), []int{1, 2}, api.OK}, {scaleOf(2), octaves(3), nil, api.ErrHand}, {scaleOf(3), octaves(3), []int{1, 2, 3}, api.OK}, {scaleOf(2, 2), octaves(2, 2), []int{1, 2, 3, 4}, api.OK}, {scaleOf(5), octaves(5), []int{1, 2, 3, 4, 5}, api.OK}, {scaleOf(5), octaves(6), nil, api.ErrLimit}, {scaleOf(4), octaves(6), nil, api.ErrHand},
	} {
		expectChord(t, x.b, x.vs, x.want, x.e)
	}
}

func TestChord(t *testing.T) {
	r := source()
	count := map[api.Errno]int{}
	several := 0
	for _, b := range drawBoards(r, 500) {
		for n := range 7 {
			vs := drawChord(r, b, n)
			want, e := wantChord(b, vs)
			expectChord(t, b, vs, want, e)
			if n > 1 {
				count[e]++
			}
			if greedy(b, vs, want) {
				several++
			}
		}
	}
	if min(count[api.OK], count[api.ErrHand], count[api.ErrNone]) < 200 || several < 100 {
		t.Errorf("too few of a kind: %v, %d", count, several)
	}
}

// greedy reports whether a chord is played, but not by the first key of each note.
func greedy(b api.Board, vs []api.Vec, ids []int) bool {
	for i, id := range ids {
		if id != wantFind(b, vs[i])[0] {
			return true
		}
	}
	return false
}

func TestChordErrors(t *testing.T) {
	for _, b := range noBoards() {
		expectChord(t, b, nil, nil, api.ErrArg)
		expectChord(t, b, []api.Vec{{}}, nil, api.ErrArg)
		expectChord(t, b, octaves(13), nil, api.ErrArg)
	}
	for _, v := range noIntervals() {
		for _, vs := range [][]api.Vec{{v}, {v, {}}, {{}, v}, {{5}, v}, {{}, {}, v}, append(octaves(20, 1), v), append([]api.Vec{v}, octaves(20)...), append(octaves(100000), v)} {
			expectChord(t, example(), vs, nil, api.ErrArg)
			expectChord(t, api.Board{}, vs, nil, api.ErrArg)
			expectChord(t, row(120, false), vs, nil, api.ErrArg)
		}
	}
}
