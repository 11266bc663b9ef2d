package size_test

import (
	"fmt"
	"math"
	"testing"

	"schisma/api"
	"schisma/pitch"
	"schisma/size"
)

// The tests of this file check P4.1 for D8 and D9.

func TestGap(t *testing.T) {
	list := pitches()
	beyond := 0
	for _, a := range list {
		for _, b := range list {
			difference := minus(a, b)
			if !pitch.Valid(difference) {
				beyond++
			}
			got, e := size.Gap(a, b)
			expect(t, fmt.Sprint("Gap of ", a, b), got, e, enclosure(difference))
		}
	}
	if beyond < 1000 {
		t.Errorf("only %d gaps have exponents that are those of no pitch", beyond)
	}
}

func TestGapAtTheBounds(t *testing.T) {
	high := api.Pitch{576, 576, 576, 576, 576, 576}
	low := minus(api.Pitch{}, high)
	got, e := size.Gap(high, low)
	expect(t, "Gap of the highest pitch and the lowest one", got, e, of(1152*14874116852, 1152*14874116857))
	got, e = size.Gap(low, high)
	expect(t, "Gap of the lowest pitch and the highest one", got, e, of(-1152*14874116857, -1152*14874116852))
	for i, want := range []api.Size{of(1000000000, 1000000000), of(1584962500, 1584962501), of(2321928094, 2321928095), of(2807354922, 2807354923), of(3459431618, 3459431619), of(3700439718, 3700439719)} {
		a, b := high, high
		a[i], b[i] = 576, -1
		got, e = size.Gap(a, b)
		expect(t, fmt.Sprint("Gap of ", a, b), got, e, of(577*want.Lo, 577*want.Hi))
		got, e = size.Gap(b, a)
		expect(t, fmt.Sprint("Gap of ", b, a), got, e, of(-577*want.Hi, -577*want.Lo))
	}
}

// bounds returns the bounds in millicents where the answers of Near for a and b may change, as far as they are valid.
func bounds(a, b api.Pitch) []int {
	gap := enclosure(minus(a, b))
	list := []int{0, 1, 21506, 21507, api.MaxStep - 1, api.MaxStep}
	for _, end := range []int{gap.Lo, gap.Hi, -gap.Lo, -gap.Hi} {
		for n := end/api.Millicent - 1; n <= end/api.Millicent+1; n++ {
			if 0 <= n && n <= api.MaxStep {
				list = append(list, n)
			}
		}
	}
	return list
}

func TestNear(t *testing.T) {
	count := map[int]int{}
	list := append(pitches(), api.Pitch{24}, api.Pitch{25}, api.Pitch{23, 1}, api.Pitch{25, -1, 1}, api.Pitch{-12, 24, -6}, api.Pitch{-19, 12}, api.Pitch{-2})
	for _, a := range list {
		for _, b := range list {
			gap := enclosure(minus(a, b))
			for _, bound := range bounds(a, b) {
				want, top := 0, bound*10000
				switch {
				case gap.Lo >= -top && gap.Hi <= top:
					want = 1
				case gap.Lo > top || gap.Hi < -top:
					want = -1
				}
				count[want]++
				n, e := size.Near(a, b, bound)
				expect(t, fmt.Sprint("Near of ", a, b, bound), n, e, want)
			}
		}
	}
	if count[1] < 1000 || count[0] < 50 || count[-1] < 1000 {
		t.Errorf("too few of one answer: %v", count)
	}
}

func TestNearExamples(t *testing.T) {
	for _, x := range []struct {
		a     api.Pitch
		bound int
		want  int
	}{
		{api.Pitch{-48, 48, -12}, 21506, -1}, {api.Pitch{-48, 48, -12}, 21507, 1}, {api.Pitch{48, -48, 12}, 21506, -1}, {api.Pitch{48, -48, 12}, 21507, 1},
		{api.Pitch{-12, 12}, 0, -1}, {api.Pitch{-12, 12}, 701954, -1}, {api.Pitch{-12, 12}, 701955, 0}, {api.Pitch{-12, 12}, 701956, 1}, // 7019550000 to 7019550012
		{api.Pitch{}, 0, 1}, {api.Pitch{}, api.MaxStep, 1}, {api.Pitch{1}, 0, -1}, {api.Pitch{1}, 99999, -1}, {api.Pitch{1}, 100000, 1},
		{api.Pitch{24}, api.MaxStep, 1}, {api.Pitch{24}, api.MaxStep - 1, -1}, {api.Pitch{25}, api.MaxStep, -1}, {api.Pitch{-24}, api.MaxStep, 1}, {api.Pitch{-25}, api.MaxStep, -1},
	} {
		n, e := size.Near(x.a, api.Pitch{}, x.bound)
		expect(t, fmt.Sprint("Near of ", x.a, x.bound), n, e, x.want)
	}
	// Two pitches that are so close that their sizes do not tell their order, but that they are near.
	for _, x := range close1152() {
		a, b := halves(x)
		n, e := size.Near(a, b, 0)
		expect(t, fmt.Sprint("Near of ", a, b, 0), n, e, 0)
		n, e = size.Near(a, b, 1)
		expect(t, fmt.Sprint("Near of ", a, b, 1), n, e, 1)
	}
}

func TestNearWithOtherBounds(t *testing.T) {
	for _, bound := range []int{-1, -api.MaxStep, api.MaxStep + 1, 1 << 32, 1<<32 + 1, 1 << 60, math.MaxInt, math.MinInt, math.MinInt + 1} {
		for _, a := range pitches() {
			n, e := size.Near(a, a, bound)
			refused(t, fmt.Sprint("Near of ", a, a, bound), n, e, api.ErrArg)
			n, e = size.Near(a, api.Pitch{1, -1}, bound)
			refused(t, fmt.Sprint("Near of ", a, bound), n, e, api.ErrArg)
		}
	}
}
