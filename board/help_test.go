package board_test

import (
	"math"
	"math/rand/v2"
	"slices"
	"testing"

	"schisma/api"
	"schisma/board"
)

// The greatest exponents of a pitch and of an interval.
const (
	part = api.MaxPart
	exp  = api.MaxExp
)

// fifth and third are intervals that occur often.
var fifth, third = api.Vec{-1, 1}, api.Vec{-2, 0, 1}

// source returns a source of numbers that are the same in each run.
func source() *rand.Rand {
	return rand.New(rand.NewPCG(10, 4))
}

// pure returns the pitch of an interval.
func pure(v api.Vec) api.Pitch {
	var p api.Pitch
	for c, e := range v {
		p[c] = 12 * e
	}
	return p
}

// times returns a times b, whether it is valid or not.
func times(a, b api.Pitch) api.Pitch {
	for c, e := range b {
		a[c] += e
	}
	return a
}

// inverse returns that of p.
func inverse(p api.Pitch) api.Pitch {
	for c, e := range p {
		p[c] = -e
	}
	return p
}

// plus returns the interval a times b, whether it is valid or not.
func plus(a, b api.Vec) api.Vec {
	for c, e := range b {
		a[c] += e
	}
	return a
}

// pitchFits reports whether p is a valid pitch.
func pitchFits(p api.Pitch) bool {
	return slices.Max(p[:]) <= part && slices.Min(p[:]) >= -part
}

// intervalFits reports whether v is a valid interval.
func intervalFits(v api.Vec) bool {
	return slices.Max(v[:]) <= exp && slices.Min(v[:]) >= -exp
}

// example returns the keyboard of the chapter's examples.
func example() api.Board {
	return api.Board{Keys: []api.Key{
		{ID: 1, X: 0, P: pure(api.Vec{})}, {ID: 2, X: 10, P: pure(api.Vec{-3, 2})}, {ID: 3, X: 20, P: pure(third)},
		{ID: 4, X: 30, P: pure(fifth)}, {ID: 5, X: 100, P: pure(api.Vec{1})}, {ID: 6, X: 20, Row: 1, P: api.Pitch{3}},
	}, Span: 40, Tol: 2000}
}

// row returns a keyboard with n keys of the same pitch, 8 to each X, whose IDs fall from left to right if falls is true. It is valid if n is at most 120.
func row(n int, falls bool) api.Board {
	b := api.Board{Span: 1000}
	for i := range n {
		at := i
		if falls {
			at = n - 1 - i
		}
		b.Keys = append(b.Keys, api.Key{ID: i + 1, X: at / 8, Row: at % 8})
	}
	return b
}

// placed returns a keyboard with keys of the same pitch at these X, whose IDs are 10, 20, .., and whose rows are different.
func placed(span int, xs ...int) api.Board {
	b := api.Board{Span: span}
	for i, x := range xs {
		b.Keys = append(b.Keys, api.Key{ID: 10 * (i + 1), X: x, Row: i % 11})
	}
	return b
}

// with returns a copy of a keyboard, changed by change.
func with(b api.Board, change func(b *api.Board)) api.Board {
	b.Keys = slices.Clone(b.Keys)
	change(&b)
	return b
}

// withKey returns a copy of a keyboard of which the key with the index i is changed by change.
func withKey(b api.Board, i int, change func(k *api.Key)) api.Board {
	return with(b, func(b *api.Board) { change(&b.Keys[i]) })
}

// far returns integers beyond each range of a keyboard.
func far() []int {
	return []int{-1, -2, -1000, -1 << 32, math.MinInt, math.MinInt + 1, 50001, 1 << 32, 1<<32 + 1, 1 << 62, math.MaxInt}
}

// noPitches returns what are no valid pitches.
func noPitches() []api.Pitch {
	var list []api.Pitch
	for _, n := range []int{part + 1, -part - 1, 2 * part, 1 << 32, 1 << 62, math.MinInt, math.MaxInt} {
		list = append(list, api.Pitch{n, n, n, n, n, n})
		for c := range 6 {
			var p api.Pitch
			p[c] = n
			list = append(list, p)
		}
	}
	return list
}

// noIntervals returns what are no valid intervals.
func noIntervals() []api.Vec {
	var list []api.Vec
	for _, n := range []int{exp + 1, -exp - 1, part, 1 << 32, 1 << 62, math.MinInt, math.MaxInt} {
		list = append(list, api.Vec{n, n, n, n, n, n})
		for c := range 6 {
			v := fifth
			v[c] = n
			list = append(list, v)
		}
	}
	return list
}

// noBoards returns what are no valid keyboards.
func noBoards() []api.Board {
	list := []api.Board{row(121, false), row(121, true), row(300, false), {Span: 1001}, {Tol: 50001}, {Keys: []api.Key{{}}}, {Keys: []api.Key{{ID: 1}, {ID: 2}}}}
	three := placed(100, 1, 2, 3)
	for _, n := range far() {
		list = append(list, api.Board{Span: n}, api.Board{Tol: n}, with(three, func(b *api.Board) { b.Span = n }), with(three, func(b *api.Board) { b.Tol = n }))
		for i := range 3 {
			list = append(list, withKey(three, i, func(k *api.Key) { k.ID = n }), withKey(three, i, func(k *api.Key) { k.X = n }), withKey(three, i, func(k *api.Key) { k.Row = n }))
		}
	}
	for i, p := range noPitches() {
		list = append(list, withKey(three, i%3, func(k *api.Key) { k.P = p }))
	}
	for _, ids := range [][]int{{10, 10, 30}, {10, 20, 20}, {20, 10, 30}, {10, 30, 20}, {30, 20, 10}, {10, 20, 10}, {0, 10, 20}, {10, 0, 20}, {10, 20, 0}, {998, 999, 1001}, {1, 1001, 2}} {
		list = append(list, with(three, func(b *api.Board) {
			for i, id := range ids {
				b.Keys[i].ID = id
			}
		}))
	}
	for _, places := range [][3][2]int{{{1, 1}, {1, 1}, {2, 2}}, {{1, 1}, {2, 2}, {1, 1}}, {{2, 2}, {1, 1}, {1, 1}}, {{5, 0}, {5, 0}, {5, 0}}, {{1001, 0}, {1, 0}, {2, 0}}, {{1, 0}, {2, 0}, {3, 11}}} {
		list = append(list, with(three, func(b *api.Board) {
			for i, place := range places {
				b.Keys[i].X, b.Keys[i].Row = place[0], place[1]
			}
		}))
	}
	return list
}

// pool returns intervals from which keyboards and chords are drawn.
func pool() []api.Vec {
	return []api.Vec{{}, fifth, third, {1, 1, -1}, {2, -1}, {-3, 2}, {1, -2, 1}, {-6, 4}, {1}, {-1}, {-2, 0, 0, 1}, {0, 1}}
}

// offsets returns by what the pitches of keys that are drawn differ from intervals.
func offsets() []api.Pitch {
	return []api.Pitch{{}, {}, {-48, 48, -12}, {48, -48, 12}, {-19, 12}, {19, -12}, {13, -8}, {-13, 8}, {1}, {-228, 144}}
}

// drawBoard returns a valid keyboard of n keys whose pitches are near to some of the pool's.
func drawBoard(r *rand.Rand, n int) api.Board {
	b := api.Board{Span: []int{0, 3, 10, 30, 100, 1000, r.IntN(1001)}[r.IntN(7)], Tol: []int{0, 1955, 2000, 21507, 35000, 50000, r.IntN(50001)}[r.IntN(7)]}
	wide, rows, few := []int{2, 12, 40, 200, 1001}[r.IntN(5)], 1+r.IntN(11), 1+r.IntN(len(pool()))
	taken := map[[2]int]bool{}
	ids := r.Perm(1000)[:n]
	slices.Sort(ids)
	for _, id := range ids {
		x, y := r.IntN(wide), r.IntN(rows)
		if taken[[2]int{x, y}] {
			continue
		}
		taken[[2]int{x, y}] = true
		b.Keys = append(b.Keys, api.Key{ID: id + 1, X: x, Row: y, P: times(pure(pool()[r.IntN(few)]), offsets()[r.IntN(len(offsets()))])})
	}
	return b
}

// drawBoards returns valid keyboards: such as stand in other tests, and others of different lengths.
func drawBoards(r *rand.Rand, count int) []api.Board {
	list := []api.Board{{}, example(), row(1, false), row(5, true), row(10, true), row(12, false), placed(0, 7), placed(0, 7, 7, 7, 7, 7, 7), placed(4, 3, 0, 8, 4, 12)}
	for range count {
		list = append(list, drawBoard(r, []int{1, 2, 3, 5, 7, 9, 12, 20, 40}[r.IntN(9)]))
	}
	return list
}

// drawIDs returns the IDs of n keys of a keyboard, or of all if it has fewer, in any order.
func drawIDs(r *rand.Rand, b api.Board, n int) []int {
	var ids []int
	for _, i := range r.Perm(len(b.Keys)) {
		if len(ids) < n {
			ids = append(ids, b.Keys[i].ID)
		}
	}
	return ids
}

// drawChord returns n intervals, most of them such as keys of the keyboard play.
func drawChord(r *rand.Rand, b api.Board, n int) []api.Vec {
	var vs []api.Vec
	for len(vs) < n {
		v := pool()[r.IntN(len(pool()))]
		if len(wantFind(b, v)) > 0 || r.IntN(30) == 0 {
			vs = append(vs, v)
		}
	}
	return vs
}

// wantValid reports whether b is a valid keyboard.
func wantValid(b api.Board) bool {
	inside := func(n, low, high int) bool { return n >= low && n <= high }
	valid := len(b.Keys) <= 120 && inside(b.Span, 0, 1000) && inside(b.Tol, 0, 50000)
	for i, k := range b.Keys {
		valid = valid && inside(k.ID, 1, 1000) && inside(k.X, 0, 1000) && inside(k.Row, 0, 10) && pitchFits(k.P)
		for _, other := range b.Keys[:i] {
			valid = valid && other.ID < k.ID && (other.X != k.X || other.Row != k.Row)
		}
	}
	return valid
}

// plays reports whether a key plays an interval: whether all of the numbers of grains that the gap may be are within the tolerance.
func plays(b api.Board, k api.Key, v api.Vec) bool {
	lower := [6]int{1000000000, 1584962500, 2321928094, 2807354922, 3459431618, 3700439718}
	low, high := 0, 0
	for c, e := range times(pure(v), inverse(k.P)) {
		one, other := e*lower[c], e*lower[c]
		if c > 0 {
			other += e
		}
		low, high = low+min(one, other), high+max(one, other)
	}
	return max(-low, high) <= b.Tol*10000
}

// wantFind returns what Find is to return for a valid keyboard and a valid interval.
func wantFind(b api.Board, v api.Vec) []int {
	var ids []int
	for _, k := range b.Keys {
		if plays(b, k, v) {
			ids = append(ids, k.ID)
		}
	}
	slices.Sort(ids)
	return ids
}

// keyOf returns the key with an ID.
func keyOf(b api.Board, id int) api.Key {
	for _, k := range b.Keys {
		if k.ID == id {
			return k
		}
	}
	return api.Key{}
}

// leftToRight returns IDs of keys from left to right.
func leftToRight(b api.Board, ids []int) []int {
	ids = slices.Clone(ids)
	at := func(id int) int { return 100*keyOf(b, id).X + keyOf(b, id).Row }
	slices.SortFunc(ids, func(i, j int) int { return at(i) - at(j) })
	return ids
}

// oneHand reports whether a hand can have these keys.
func oneHand(b api.Board, ids []int) bool {
	for _, i := range ids {
		for _, j := range ids {
			if keyOf(b, j).X-keyOf(b, i).X > b.Span {
				return false
			}
		}
	}
	return len(ids) <= 5
}

// wantHands returns what Hands is to return for a valid keyboard and different IDs of its keys.
func wantHands(b api.Board, ids []int) (left, right []int, e api.Errno) {
	ids = leftToRight(b, ids)
	e = api.ErrHand
	for n := range len(ids) + 1 {
		if oneHand(b, ids[:n]) && oneHand(b, ids[n:]) {
			left, right, e = ids[:n], ids[n:], api.OK
		}
	}
	return left, right, e
}

// reached reports whether different keys with these IDs can be reached.
func reached(b api.Board, ids []int) bool {
	_, _, e := wantHands(b, ids)
	return e == api.OK
}

// different reports whether no number is in a list twice.
func different(ids []int) bool {
	sorted := slices.Sorted(slices.Values(ids))
	return len(slices.Compact(sorted)) == len(ids)
}

// wantChord returns what Chord is to return for a valid keyboard and valid intervals: it tries all lists, one after the other.
func wantChord(b api.Board, vs []api.Vec) ([]int, api.Errno) {
	lists := [][]int{{}}
	many := len(vs) > 12
	for _, v := range vs {
		ids := wantFind(b, v)
		if len(ids) == 0 {
			return nil, api.ErrNone
		}
		many = many || len(lists)*len(ids) > 10000
		var longer [][]int
		for _, list := range lists {
			for _, id := range ids {
				if !many {
					longer = append(longer, append(slices.Clone(list), id))
				}
			}
		}
		lists = longer
	}
	if many {
		return nil, api.ErrLimit
	}
	for _, list := range lists {
		if different(list) && reached(b, list) {
			return list, api.OK
		}
	}
	return nil, api.ErrHand
}

// expectValid checks what Valid returns.
func expectValid(t *testing.T, b api.Board, want bool) {
	t.Helper()
	if got := board.Valid(b); got != want {
		t.Errorf("Valid of %v: %v", b, got)
	}
}

// expectFind checks what Find returns.
func expectFind(t *testing.T, b api.Board, v api.Vec, want []int, e api.Errno) {
	t.Helper()
	if got, f := board.Find(b, v); !slices.Equal(got, want) || f != e {
		t.Errorf("Find of %v, %v: %v, %v; want %v, %v", b, v, got, f, want, e)
	}
}

// expectHands checks what Hands returns.
func expectHands(t *testing.T, b api.Board, ids, left, right []int, e api.Errno) {
	t.Helper()
	if l, r, f := board.Hands(b, ids); !slices.Equal(l, left) || !slices.Equal(r, right) || f != e {
		t.Errorf("Hands of %v, %v: %v, %v, %v; want %v, %v, %v", b, ids, l, r, f, left, right, e)
	}
}

// expectChord checks what Chord returns.
func expectChord(t *testing.T, b api.Board, vs []api.Vec, want []int, e api.Errno) {
	t.Helper()
	if got, f := board.Chord(b, vs); !slices.Equal(got, want) || f != e {
		t.Errorf("Chord of %v, %v: %v, %v; want %v, %v", b, vs, got, f, want, e)
	}
}
