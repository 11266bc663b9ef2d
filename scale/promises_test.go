package scale_test

import (
	"math/rand/v2"
	"slices"
	"testing"

	"schisma/api"
	"schisma/scale"
)

// pitches returns valid pitches, small ones and great ones, in and beyond the octave.
func pitches(r *rand.Rand) []api.Pitch {
	list := closePitches()
	for _, p := range closePitches() {
		list = append(list, over(unison, p), times(octave, p, 1))
	}
	for _, top := range []int{1, 5, 24, 100, 300, part} {
		for range 100 {
			list = append(list, draw(r, top), drawInside(r, top))
		}
	}
	return slices.DeleteFunc(list, func(p api.Pitch) bool { return !fits(p) })
}

// TestP9_2Octaves checks that what Octave returns is within the octave and leads back to the pitch, and that it is the same for the pitch multiplied by octaves.
func TestP9_2Octaves(t *testing.T) {
	r := source()
	count := 0
	for _, p := range pitches(r) {
		q, o, e := scale.Octave(p)
		if e != api.OK {
			continue
		}
		count++
		if times(q, octave, o) != p || !fits(q) || order(q, unison) < 0 || order(q, octave) >= 0 {
			t.Errorf("%v is said to be %v times %d octaves", p, q, o)
		}
		expectOctave(t, q, q, 0, api.OK)
		for _, n := range []int{1, -1, number(r, 96), number(r, 96)} {
			if other := times(p, octave, n); fits(other) {
				expectOctave(t, other, q, o+n, api.OK)
			}
		}
	}
	if count < 800 {
		t.Errorf("only %d pitches", count)
	}
}

// TestP9_2OutOfRange checks that a pitch that is out of range is so in each octave, and that no power of the octave leads to a valid pitch within the octave.
func TestP9_2OutOfRange(t *testing.T) {
	r := source()
	count := 0
	for _, p := range pitches(r) {
		if _, _, e := scale.Octave(p); e != api.ErrRange {
			continue
		}
		count++
		for n := -96; n <= 96; n++ {
			other := times(p, octave, n)
			if !fits(other) {
				continue
			}
			if order(other, unison) >= 0 && order(other, octave) < 0 {
				t.Errorf("%v is said to be out of range, but %v is not", p, other)
			}
			if n%32 == 0 {
				expectOctave(t, other, api.Pitch{}, 0, api.ErrRange)
			}
		}
	}
	if count < 100 {
		t.Errorf("only %d pitches", count)
	}
}

// generators returns valid pitches whose chains are of different kinds.
func generators(r *rand.Rand) []api.Pitch {
	list := []api.Pitch{unison, octave, {-12, 12}, {0, 12}, {-24, 0, 12}, {0, 1}, {0, 5}, {0, 0, 3}, {1}, {5}, {-7}, {0, 0, 0, 0, 0, 7}, {13, -1}, closePitches()[0]}
	for _, top := range []int{1, 2, 4, 9, 18} {
		for range 12 {
			list = append(list, draw(r, top))
		}
	}
	return list
}

// TestP9_3ThreeGaps checks how many different steps chains have, and that the greatest of three is the product of both others.
func TestP9_3ThreeGaps(t *testing.T) {
	var count [4]int
	for _, g := range generators(source()) {
		for n := 1; n <= most; n++ {
			s, e := scale.Chain(g, n)
			if e != api.OK {
				continue
			}
			steps, e := scale.Steps(s)
			if e != api.OK {
				continue
			}
			sizes := rising(steps)
			if len(sizes) > 3 || len(sizes) == 3 && times(sizes[0], sizes[1], 1) != sizes[2] {
				t.Fatalf("chain of %v, %d: steps %v", g, n, sizes)
			}
			count[len(sizes)]++
		}
	}
	if count[1] < 20 || count[2] < 100 || count[3] < 300 {
		t.Errorf("too few of a kind: %v", count)
	}
}

// TestP9_4Steps checks that the product of the steps is the octave, and that each is higher than the unison and leads to the next degree.
func TestP9_4Steps(t *testing.T) {
	count := 0
	for _, s := range scales() {
		steps, e := scale.Steps(s)
		if e != api.OK {
			continue
		}
		count++
		product := unison
		for i, step := range steps {
			if product != s[i] || order(step, unison) <= 0 {
				t.Errorf("%v: the steps before %d lead to %v, and it is %v", s, i, product, step)
			}
			product = times(product, step, 1)
		}
		if product != octave || len(steps) != len(s) {
			t.Errorf("%v has the steps %v", s, steps)
		}
	}
	if count < 100 {
		t.Errorf("only %d scales", count)
	}
}

// TestP9_5Modes checks that modes are scales, that the mode of a mode is a mode, and that degree 0 leads to the scale.
func TestP9_5Modes(t *testing.T) {
	r := source()
	count := 0
	for _, s := range scales() {
		expectMode(t, s, 0, s, api.OK)
		for range 4 {
			i, j := r.IntN(len(s)), r.IntN(len(s))
			first, e := scale.Mode(s, i)
			if e != api.OK {
				continue
			}
			expectValid(t, first, true)
			expectMode(t, first, (len(s)-i)%len(s), s, api.OK)
			second, e := scale.Mode(first, j)
			expectMode(t, s, (i+j)%len(s), second, e)
			if e == api.OK && len(s) > 1 {
				count++
			}
		}
	}
	if count < 200 {
		t.Errorf("only %d modes", count)
	}
}

// TestP9_5Steps checks that the steps of a mode are those of the scale, from its degree on.
func TestP9_5Steps(t *testing.T) {
	count := 0
	for _, s := range scales() {
		steps, e := scale.Steps(s)
		if e != api.OK {
			continue
		}
		for i := range s {
			mode, e := scale.Mode(s, i)
			if e == api.OK {
				expectSteps(t, mode, slices.Concat(steps[i:], steps[:i]), api.OK)
				count++
			}
		}
	}
	if count < 500 {
		t.Errorf("only %d modes", count)
	}
}

// TestP9_6Degrees checks that each degree is found in each octave in which it is a valid pitch, and that it is the nearest one to itself, unless the quotient of the next one and it is not valid.
func TestP9_6Degrees(t *testing.T) {
	count := 0
	for _, s := range scales() {
		for i, p := range s {
			if i%4 != 0 && i < len(s)-2 {
				continue
			}
			next := append(slices.Clone(s), octave)[i+1]
			for _, o := range []int{-96, -48, -20, -3, -2, -1, 0, 1, 2, 5, 30, 47, 48, 96} {
				other := times(p, octave, o)
				if !fits(other) {
					continue
				}
				expectDegree(t, s, other, i, o, api.OK)
				if fits(over(next, p)) {
					expectNearest(t, s, other, i, o, api.OK)
					count++
				} else {
					expectNearest(t, s, other, 0, 0, api.ErrRange)
				}
			}
		}
	}
	if count < 2000 {
		t.Errorf("only %d degrees", count)
	}
}

// apart returns how far p is from q, as a pitch that is not lower than the unison.
func apart(p, q api.Pitch) api.Pitch {
	if order(p, q) < 0 {
		p, q = q, p
	}
	return over(p, q)
}

// TestP9_7Nearest checks that no degree in any octave is nearer than the one that Nearest returns, and that, of two that are as near, the lower one is returned.
func TestP9_7Nearest(t *testing.T) {
	r := source()
	count, both := 0, 0
	for _, s := range scales() {
		for _, p := range drawNear(r, s)[:15] {
			degree, o, e := scale.Nearest(s, p)
			if e != api.OK {
				continue
			}
			count++
			found := times(s[degree], octave, o)
			far := apart(p, found)
			for i, d := range s {
				if len(s) > 20 && i%7 != 0 && (i-degree)*(i-degree) > 4 {
					continue
				}
				for n := o - 2; n <= o+2; n++ {
					other := times(d, octave, n)
					nearer := order(apart(p, other), far)
					if nearer < 0 || nearer == 0 && order(other, found) < 0 {
						t.Errorf("%v: Nearest of %v is %d, %d, but %d, %d is nearer", s, p, degree, o, i, n)
					}
					if nearer == 0 && other != found {
						both++
					}
				}
			}
		}
	}
	if count < 1000 || both < 30 {
		t.Errorf("only %d pitches, of which %d are as near to two degrees", count, both)
	}
}

// TestP9_8LongerChains checks that a longer chain has all pitches of a shorter one, and one more for each power.
func TestP9_8LongerChains(t *testing.T) {
	count := 0
	for _, g := range generators(source()) {
		before := []api.Pitch{unison}
		for n := 1; n <= most; n++ {
			s, e := scale.Chain(g, n)
			if e != api.OK {
				break
			}
			for _, p := range before {
				if !slices.Contains(s, p) {
					t.Errorf("chain of %v, %d: %v is not in %v", g, n, p, s)
				}
			}
			if len(s) != n || !scale.Valid(s) {
				t.Errorf("chain of %v, %d: %v", g, n, s)
			}
			before = s
			count++
		}
	}
	if count < 800 {
		t.Errorf("only %d chains", count)
	}
}

// TestP9_8Errors checks that what ends a chain ends all longer ones: once two pitches are equal, or a power is out of range, no longer chain is a scale.
func TestP9_8Errors(t *testing.T) {
	for _, g := range generators(source()) {
		last := api.OK
		for n := 1; n <= most; n++ {
			_, e := scale.Chain(g, n)
			if last == api.ErrRange && e != api.ErrRange || last == api.ErrTwice && e == api.OK {
				t.Errorf("chain of %v, %d: %v after %v", g, n, e, last)
			}
			last = e
		}
	}
}
