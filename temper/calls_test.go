package temper_test

import (
	"slices"
	"testing"

	"schisma/api"
	"schisma/pitch"
	"schisma/temper"
)

// The tests of this file check P7.1, from G1 to G6.

// expectValid checks what Valid returns.
func expectValid(t *testing.T, m api.Map, want bool) {
	t.Helper()
	if got := temper.Valid(m); got != want {
		t.Errorf("Valid of %v: %v", m, got)
	}
}

func TestValidExamples(t *testing.T) {
	for _, m := range special() {
		expectValid(t, m, true)
		if !wantValid(m) {
			t.Errorf("%v is not to be valid", m)
		}
	}
	for _, m := range noMaps() {
		expectValid(t, m, false)
	}
	for _, x := range []struct {
		m    api.Map
		want bool
	}{
		{of(), false}, {of(unit(0, 1)), true}, {of(unit(0, 1), unit(1, 1)), true}, {of(unit(0, 1), unit(1, 1), unit(2, 1)), true}, {of(unit(0, 1), unit(1, 1), unit(2, 1), unit(3, 1)), false},
		{of(unit(4, 400)), true}, {of(unit(4, 401)), false}, {of(unit(4, -400)), true}, {of(unit(4, -401)), false}, {of(unit(0, 1), unit(5, 400)), true}, {of(unit(0, 1), unit(5, 401)), false}, {of(unit(0, 1), unit(5, -401)), false},
		{of(unit(0, 0)), false}, {of(unit(0, 1), unit(0, 0)), false}, {of(unit(0, 1), unit(0, 1)), false}, {of(unit(0, 2), unit(0, 3)), false}, {of(api.Vec{1, 2}, api.Vec{2, 4}), false}, {of(api.Vec{1, 2}, api.Vec{2, 5}), true}, {of(api.Vec{1, 2, 3}, api.Vec{4, 5, 6}, api.Vec{7, 8, 9}), false}, {of(api.Vec{1, 2, 3}, api.Vec{4, 5, 6}, api.Vec{7, 8, 8}), true},
		{of(api.Vec{400, 400, 200}, api.Vec{0, 400, 400, 200}, api.Vec{0, 0, -400, 400, 200}), true}, {of(api.Vec{400, 400, 200}, api.Vec{0, 400, 400, 200}, api.Vec{0, 0, -400, 400, 200, 1}), false}, {of(full(most), full(-most), full(most)), false}, {of(full(most), api.Vec{most, most, most, most, most}), true},
	} {
		expectValid(t, x.m, x.want)
	}
}

func TestValid(t *testing.T) {
	r := source()
	var count [2][4]int
	for _, m := range temperaments() {
		for range 10 {
			rows := slices.Clone(m.Rows)
			for range r.IntN(3) {
				i := r.IntN(len(rows))
				switch r.IntN(5) {
				case 0:
					rows[i] = drawRow(r, most)
				case 1:
					rows[i][r.IntN(6)] += number(r, 3)
				case 2:
					rows[i] = rows[r.IntN(len(rows))]
				case 3:
					rows[i] = drawSum(r, m.Rows, 2)
				default:
					rows = append(rows, drawRow(r, 50))
				}
			}
			want := wantValid(of(rows...))
			expectValid(t, of(rows...), want)
			count[boolean(want)][min(len(rows), 4)-1]++
		}
	}
	if slices.Min(count[0][1:]) < 100 || slices.Min(count[1][:3]) < 500 {
		t.Errorf("too few of a kind: %v", count)
	}
}

// boolean returns 1 for true and 0 for false.
func boolean(b bool) int {
	if b {
		return 1
	}
	return 0
}

// expectImage checks what Image and Tempers return.
func expectImage(t *testing.T, m api.Map, v api.Vec, want []int, e api.Errno) {
	t.Helper()
	if got, f := temper.Image(m, v); !slices.Equal(got, want) || f != e {
		t.Errorf("Image of %v by %v: %v, %v; want %v, %v", v, m, got, f, want, e)
	}
	none := e == api.OK && slices.Equal(want, make([]int, len(want)))
	if got, f := temper.Tempers(m, v); got != none || f != e {
		t.Errorf("Tempers of %v by %v: %v, %v; want %v, %v", v, m, got, f, none, e)
	}
}

func TestImageExamples(t *testing.T) {
	for _, x := range []struct {
		m    api.Map
		v    api.Vec
		want []int
	}{
		{twelve(), api.Vec{-1, 1}, []int{7}}, {twelve(), api.Vec{-4, 4, -1}, []int{0}}, {meantone(), api.Vec{-4, 4, -1}, []int{0, 0}},
		{twelve(), api.Vec{}, []int{0}}, {meantone(), api.Vec{}, []int{0, 0}}, {of(unit(0, 1), unit(1, 1), unit(2, 1)), api.Vec{}, []int{0, 0, 0}},
		{twelve(), unit(0, 1), []int{12}}, {twelve(), unit(1, 1), []int{19}}, {twelve(), unit(2, 1), []int{28}}, {twelve(), unit(3, 1), []int{34}}, {twelve(), unit(4, 1), []int{42}}, {twelve(), unit(5, -1), []int{-44}},
		{meantone(), api.Vec{-1, 1}, []int{-1, 1}}, {meantone(), api.Vec{-2, 0, 1}, []int{-6, 4}}, {meantone(), unit(3, 48), []int{0, 0}}, {meantone(), api.Vec{4, -4, 2}, []int{-4, 4}},
		// All integers but one are 0: there is nothing that is tempered out.
		{of(unit(0, 1), unit(1, 1), unit(2, 1)), unit(0, 5), []int{5, 0, 0}}, {of(unit(0, 1), unit(1, 1), unit(2, 1)), unit(1, 5), []int{0, 5, 0}}, {of(unit(0, 1), unit(1, 1), unit(2, 1)), unit(2, -5), []int{0, 0, -5}}, {of(unit(0, 1), unit(1, 1), unit(2, 1)), unit(3, 5), []int{0, 0, 0}}, {of(unit(0, 1), unit(1, 1)), unit(1, 1), []int{0, 1}},
		{of(unit(2, 1), unit(0, 1), unit(1, 1)), api.Vec{1, 2, 3}, []int{3, 1, 2}},
		{of(full(most)), full(exp), []int{115200}}, {of(full(-most)), full(exp), []int{-115200}}, {of(full(-most)), full(-exp), []int{115200}}, {of(full(most)), api.Vec{exp, -exp, exp, -exp, exp, -exp}, []int{0}}, {of(full(most), api.Vec{most, most, most, most, most, most - 1}), full(-exp), []int{-115200, -115152}},
	} {
		expectImage(t, x.m, x.v, x.want, api.OK)
	}
}

func TestImage(t *testing.T) {
	r := source()
	tempered := 0
	for _, m := range temperaments() {
		for _, v := range intervals(r, m) {
			var want []int
			for _, row := range m.Rows {
				want = append(want, product(row, v))
			}
			expectImage(t, m, v, want, api.OK)
			if v != (api.Vec{}) && slices.Equal(want, make([]int, len(want))) {
				tempered++
			}
		}
	}
	if tempered < 1000 {
		t.Errorf("only %d intervals are tempered out", tempered)
	}
}

// expectKernel checks what Kernel returns.
func expectKernel(t *testing.T, m api.Map, want []api.Vec, e api.Errno) {
	t.Helper()
	if got, f := temper.Kernel(m); !slices.Equal(got, want) || f != e {
		t.Errorf("Kernel of %v: %v, %v; want %v, %v", m, got, f, want, e)
	}
}

func TestKernelExamples(t *testing.T) {
	for _, x := range []struct {
		m    api.Map
		want []api.Vec
	}{
		{meantone(), []api.Vec{{4, -4, 1}, unit(3, 1), unit(4, 1), unit(5, 1)}}, {of(api.Vec{12, 19, 28}, api.Vec{19, 30, 44}), []api.Vec{{4, -4, 1}, unit(3, 1), unit(4, 1), unit(5, 1)}},
		{of(unit(0, 1)), []api.Vec{unit(1, 1), unit(2, 1), unit(3, 1), unit(4, 1), unit(5, 1)}}, {of(unit(0, -400)), []api.Vec{unit(1, 1), unit(2, 1), unit(3, 1), unit(4, 1), unit(5, 1)}}, {of(unit(1, 1), unit(5, 3), unit(3, -1)), []api.Vec{unit(0, 1), unit(2, 1), unit(4, 1)}},
		{of(api.Vec{2, 3}), []api.Vec{{3, -2}, unit(2, 1), unit(3, 1), unit(4, 1), unit(5, 1)}}, {of(api.Vec{4, 6}), []api.Vec{{3, -2}, unit(2, 1), unit(3, 1), unit(4, 1), unit(5, 1)}}, {of(full(1)), []api.Vec{{1, 0, 0, 0, 0, -1}, {0, 1, 0, 0, 0, -1}, {0, 0, 1, 0, 0, -1}, {0, 0, 0, 1, 0, -1}, {0, 0, 0, 0, 1, -1}}}, {of(full(400)), []api.Vec{{1, 0, 0, 0, 0, -1}, {0, 1, 0, 0, 0, -1}, {0, 0, 1, 0, 0, -1}, {0, 0, 0, 1, 0, -1}, {0, 0, 0, 0, 1, -1}}},
		{of(api.Vec{0, 1}, api.Vec{0, 0, 1, 0, 0, 400}), []api.Vec{unit(0, 1), {0, 0, 400, 0, 0, -1}, unit(3, 1), unit(4, 1)}}, {of(api.Vec{400, 399}), []api.Vec{{399, -400}, unit(2, 1), unit(3, 1), unit(4, 1), unit(5, 1)}},
	} {
		expectKernel(t, x.m, x.want, api.OK)
	}
}

func TestKernel(t *testing.T) {
	for _, m := range temperaments() {
		expectKernel(t, m, wantKernel(m.Rows), api.OK)
	}
}

// expectFrom checks what From returns.
func expectFrom(t *testing.T, commas []api.Vec, want api.Map, e api.Errno) {
	t.Helper()
	if got, f := temper.From(commas); !slices.Equal(got.Rows, want.Rows) || f != e {
		t.Errorf("From of %v: %v, %v; want %v, %v", commas, got, f, want, e)
	}
}

// units returns unit rows of some columns.
func units(columns ...int) []api.Vec {
	var rows []api.Vec
	for _, c := range columns {
		rows = append(rows, unit(c, 1))
	}
	return rows
}

func TestFromExamples(t *testing.T) {
	syntonic := api.Vec{-4, 4, -1}
	for _, x := range []struct {
		commas, want []api.Vec
	}{
		{append(units(3, 4, 5), syntonic), meantone().Rows}, {append(units(5, 3, 4), plus(api.Vec{}, syntonic, -1)), meantone().Rows}, {append(units(3, 4, 5), plus(api.Vec{}, syntonic, 2)), meantone().Rows}, {append(units(3, 4, 5), syntonic, plus(unit(4, 2), syntonic, 3)), meantone().Rows},
		{append(units(3, 4, 5), syntonic, api.Vec{7, 0, -3}), []api.Vec{{12, 19, 28}}}, {append(units(3, 4, 5), syntonic, api.Vec{-19, 12}), []api.Vec{{12, 19, 28}}},
		{units(0, 1, 2), units(3, 4, 5)}, {units(0, 1, 2, 3), units(4, 5)}, {units(0, 1, 2, 3, 4), units(5)}, {units(5, 3, 1), units(0, 2, 4)},
		// Rows that are 0, and rows that depend on each other, up to eight of them.
		{append(units(0, 1, 2), api.Vec{}), units(3, 4, 5)}, {append(units(0, 1, 2), make([]api.Vec, 5)...), units(3, 4, 5)}, {append(units(0, 1, 2), units(0, 1, 2, 0, 1)...), units(3, 4, 5)}, {append(units(0, 1, 2, 3, 4), units(0, 1, 2)...), units(5)}, {append(units(0, 1, 2), api.Vec{3, 4, -5}), units(3, 4, 5)},
		{[]api.Vec{unit(0, 48), unit(1, -48), unit(2, 48)}, units(3, 4, 5)}, {[]api.Vec{unit(5, 7), {1, 1}, {2, 0, 2}}, []api.Vec{{1, -1, -1}, unit(3, 1), unit(4, 1)}},
		// Elements at the bound.
		{append(units(3, 4, 5), api.Vec{20, -1}, api.Vec{0, 20, -1}), []api.Vec{{1, 20, 400}}}, {append(units(3, 4, 5), api.Vec{20, 1}, api.Vec{0, 20, 1}), []api.Vec{{1, -20, 400}}}, {append(units(3, 4, 5), api.Vec{20, -1}, api.Vec{0, 20, 1}), []api.Vec{{1, 20, -400}}}, {append(units(4, 5), api.Vec{20, -1}, api.Vec{0, 20, -1}), []api.Vec{{1, 20, 400}, unit(3, 1)}},
	} {
		expectFrom(t, x.commas, of(x.want...), api.OK)
	}
}

func TestFromErrors(t *testing.T) {
	for _, x := range []struct {
		commas []api.Vec
		e      api.Errno
	}{
		// Too many rows are left: six, five or four.
		{nil, api.ErrNone}, {[]api.Vec{}, api.ErrNone}, {make([]api.Vec, 1), api.ErrNone}, {make([]api.Vec, 8), api.ErrNone}, {[]api.Vec{{-4, 4, -1}}, api.ErrNone}, {units(0, 1), api.ErrNone}, {append(units(0, 1), units(0, 1, 0, 1, 0, 1)...), api.ErrNone}, {append(units(0, 1), api.Vec{}, api.Vec{2, -3}), api.ErrNone}, {append(units(3, 4), api.Vec{0, 0, 0, 2, 5}), api.ErrNone},
		// None is left.
		{units(0, 1, 2, 3, 4, 5), api.ErrNone}, {append(units(0, 1, 2, 3, 4, 5), api.Vec{}, api.Vec{1, 1}), api.ErrNone}, {append(units(3, 4, 5), api.Vec{-4, 4, -1}, api.Vec{7, 0, -3}, api.Vec{1, 1}), api.ErrNone}, {[]api.Vec{unit(0, 2), unit(1, 3), unit(2, -4), unit(3, 5), unit(4, 6), unit(5, 7)}, api.ErrNone},
		// An element is beyond the bound, on either side.
		{append(units(3, 4, 5), api.Vec{20, -1}, api.Vec{1, 20, -1}), api.ErrRange}, {append(units(3, 4, 5), api.Vec{20, -1}, api.Vec{1, 20, 1}), api.ErrRange}, {append(units(3, 4, 5), api.Vec{21, -1}, api.Vec{0, 20, -1}), api.ErrRange}, {append(units(4, 5), api.Vec{20, -1}, api.Vec{1, 20, -1}), api.ErrRange}, {append(units(5), api.Vec{20, -1}, api.Vec{1, 20, -1}), api.ErrRange}, {[]api.Vec{{48, -1}, {0, 48, -1}, {0, 0, 48, -1}, {0, 0, 0, 1, -1}, {0, 0, 0, 0, 1, -1}}, api.ErrRange},
		// No element is beyond the bound, but the volume.
		{[]api.Vec{{0, -2, 11, 0, 0, -9}, {3, 2, 1, 2, 1}, {0, -1, 0, -3, 13, -17}}, api.ErrRange}, {[]api.Vec{{14, 0, -17, 14, -6, 12}, {0, 0, 18, -11, -11, 1}, {0, -16, 0, 2, 0, -2}}, api.ErrRange},
		// Exponents that are beyond the bound of intervals, nine rows, too great a volume: whatever would be left.
		{[]api.Vec{unit(0, 49)}, api.ErrArg}, {append(units(0, 1, 2, 3, 4), unit(5, -49)), api.ErrArg}, {append(units(0, 1), unit(2, 49)), api.ErrArg}, {append(units(3, 4, 5), api.Vec{20, -1}, api.Vec{49, 20, -1}), api.ErrArg}, {append(units(3, 4, 5), api.Vec{-4, 4, -49}), api.ErrArg},
		{make([]api.Vec, 9), api.ErrArg}, {append(units(0, 1, 2), make([]api.Vec, 6)...), api.ErrArg}, {append(units(0, 1, 2, 3, 4, 5), units(0, 1, 2)...), api.ErrArg}, {slices.Repeat([]api.Vec{full(48)}, 4), api.ErrArg}, {[]api.Vec{full(48), full(48), full(48), unit(0, 42)}, api.ErrArg}, {[]api.Vec{full(48), full(48), full(48), unit(0, 41)}, api.ErrNone},
	} {
		expectFrom(t, x.commas, api.Map{}, x.e)
	}
}

func TestFrom(t *testing.T) {
	r := source()
	list := temperaments()
	count := map[api.Errno]int{}
	var rows [4]int
	for range 4000 {
		commas := drawCommas(r, list, 1+r.IntN(8))
		want, e := wantFrom(commas)
		expectFrom(t, commas, want, e)
		count[e]++
		rows[len(want.Rows)]++
	}
	if min(count[api.OK], count[api.ErrNone], count[api.ErrRange]) < 200 || slices.Min(rows[1:]) < 100 {
		t.Errorf("too few of a kind: %v, %v", count, rows)
	}
}

// expectTune checks what Tune and Pure return.
func expectTune(t *testing.T, m api.Map, gens []api.Pitch, v api.Vec, want api.Pitch, e api.Errno) {
	t.Helper()
	if got, f := temper.Tune(m, gens, v); got != want || f != e {
		t.Errorf("Tune of %v by %v, %v: %v, %v; want %v, %v", v, m, gens, got, f, want, e)
	}
	own, _ := pitch.Of(v)
	pure := e == api.OK && own == want
	if got, f := temper.Pure(m, gens, v); got != pure || f != e {
		t.Errorf("Pure of %v by %v, %v: %v, %v; want %v, %v", v, m, gens, got, f, pure, e)
	}
}

func TestTuneExamples(t *testing.T) {
	three := of(unit(0, 1), unit(1, 1), unit(2, 1))
	own := []api.Pitch{{12}, {0, 12}, {0, 0, 12}}
	for _, x := range []struct {
		m    api.Map
		gens []api.Pitch
		v    api.Vec
		want api.Pitch
	}{
		{meantone(), quarter(), api.Vec{-1, 1}, api.Pitch{0, 0, 3}}, {meantone(), quarter(), api.Vec{-2, 0, 1}, api.Pitch{-24, 0, 12}}, {meantone(), quarter(), api.Vec{}, api.Pitch{}}, {meantone(), quarter(), unit(0, 1), api.Pitch{12}}, {meantone(), quarter(), unit(0, -48), api.Pitch{-576}}, {meantone(), quarter(), api.Vec{-4, 4, -1}, api.Pitch{}}, {meantone(), quarter(), unit(3, 48), api.Pitch{}}, {meantone(), quarter(), unit(2, 48), api.Pitch{0, 0, 576}}, {meantone(), quarter(), api.Vec{-1, -1, 1}, api.Pitch{-24, 0, 9}},
		{twelve(), []api.Pitch{{1}}, api.Vec{-1, 1}, api.Pitch{7}}, {twelve(), []api.Pitch{{1}}, unit(0, 1), api.Pitch{12}}, {twelve(), []api.Pitch{{1}}, unit(0, 48), api.Pitch{576}}, {twelve(), []api.Pitch{{0, 0, 0, 0, 0, -3}}, unit(5, -1), api.Pitch{0, 0, 0, 0, 0, 132}}, {twelve(), []api.Pitch{{}}, full(48), api.Pitch{}},
		{three, own, api.Vec{1, -2, 3}, api.Pitch{12, -24, 36}}, {three, own, api.Vec{48, -48, 48}, api.Pitch{576, -576, 576}}, {three, own, api.Vec{1, -2, 3, 4}, api.Pitch{12, -24, 36}}, {three, own, unit(3, 1), api.Pitch{}}, {three, []api.Pitch{{0, 12}, {0, 0, 12}, {12}}, api.Vec{1, -2, 3}, api.Pitch{36, 12, -24}}, {three, []api.Pitch{{1, 2, 3, 4, 5, 6}, {-1, 1, -1, 1, -1, 1}, {0, 0, 0, 7, 0, 0}}, api.Vec{3, 2, -1, 5}, api.Pitch{1, 8, 7, 7, 13, 20}},
		// The exponents are at their bound, in each column.
		{of(unit(0, 1)), []api.Pitch{{12, -12, 12, -12, 12, -12}}, unit(0, 48), api.Pitch{576, -576, 576, -576, 576, -576}}, {of(unit(0, 1)), []api.Pitch{api.Pitch(full(576))}, unit(0, -1), api.Pitch(full(-576))}, {of(unit(0, 400)), []api.Pitch{{1}}, unit(0, 1), api.Pitch{400}},
		// The images exceed what package pitch would raise to a power, and what the generators lead to takes away from each other.
		{of(full(most), api.Vec{most, most, most, most, most, most - 1}), []api.Pitch{api.Pitch(full(576)), api.Pitch(full(-576))}, api.Vec{48, 48, 48, 48, 48}, api.Pitch{}}, {of(full(most), api.Vec{most, most, most, most, most, most - 1}), []api.Pitch{api.Pitch(full(12)), api.Pitch(full(-12))}, full(48), api.Pitch(full(576))}, {of(full(most)), []api.Pitch{{}}, full(-48), api.Pitch{}}, {of(unit(0, most), unit(1, most)), []api.Pitch{{576, 1}, {-576, 0}}, api.Vec{1, 1}, api.Pitch{0, 400}},
	} {
		expectTune(t, x.m, x.gens, x.v, x.want, api.OK)
	}
}

func TestTuneErrors(t *testing.T) {
	for _, x := range []struct {
		m    api.Map
		gens []api.Pitch
		v    api.Vec
		e    api.Errno
	}{
		// Too few generators, too many of them, and none.
		{meantone(), nil, api.Vec{}, api.ErrArg}, {meantone(), quarter()[:1], api.Vec{}, api.ErrArg}, {meantone(), append(quarter(), api.Pitch{}), api.Vec{}, api.ErrArg}, {twelve(), []api.Pitch{}, api.Vec{}, api.ErrArg}, {twelve(), quarter(), api.Vec{-1, 1}, api.ErrArg}, {of(unit(0, 1), unit(1, 1), unit(2, 1)), quarter(), api.Vec{}, api.ErrArg}, {of(), nil, api.Vec{}, api.ErrArg},
		// A tuned pitch that is just not valid any more.
		{of(unit(0, 1)), []api.Pitch{{13}}, unit(0, 48), api.ErrRange}, {of(unit(0, 1)), []api.Pitch{{0, 0, 0, 0, 0, -13}}, unit(0, 48), api.ErrRange}, {of(unit(0, 400)), []api.Pitch{{0, 0, 2}}, unit(0, 1), api.ErrRange}, {of(api.Vec{193, 1}), []api.Pitch{{0, 1}}, api.Vec{3, -3}, api.OK}, {of(api.Vec{193, 1}), []api.Pitch{{0, 1}}, api.Vec{3, -2}, api.ErrRange}, {of(api.Vec{193, 1}), []api.Pitch{{0, -1}}, api.Vec{3, -2}, api.ErrRange}, {meantone(), quarter(), unit(1, 48), api.OK}, {meantone(), quarter(), api.Vec{1, 48}, api.ErrRange},
		{of(full(most)), []api.Pitch{api.Pitch(full(576))}, full(48), api.ErrRange}, {of(full(most)), []api.Pitch{api.Pitch(full(1))}, full(-48), api.ErrRange}, {of(unit(0, 1), unit(1, 1)), []api.Pitch{{576}, {0, 0, 0, 0, 0, 576}}, api.Vec{1, 2}, api.ErrRange}, {of(unit(0, 1), unit(1, 1)), []api.Pitch{{576}, {1}}, api.Vec{1, 1}, api.ErrRange}, {of(unit(0, 1), unit(1, 1)), []api.Pitch{{576}, {1}}, api.Vec{1, 0}, api.OK},
		// What is not valid would be a tuned pitch, as the product leaves an int: 2^62 * 4, or 2^32 * 2^32.
		{of(unit(0, 4)), []api.Pitch{{1 << 62}}, unit(0, 1), api.ErrArg}, {of(unit(0, 4)), []api.Pitch{{1}}, unit(0, 1<<62), api.ErrArg}, {of(unit(0, 1<<32)), []api.Pitch{{1 << 32}}, unit(0, 1), api.ErrArg}, {of(unit(0, 1<<62)), []api.Pitch{{1}}, unit(0, 4), api.ErrArg}, {of(unit(0, 1), unit(1, 1)), []api.Pitch{{1 << 62}, {-1 << 62}}, api.Vec{1, 1}, api.ErrArg}, {of(unit(0, 1)), []api.Pitch{{1 << 62}}, api.Vec{}, api.ErrArg},
		// Several errors: the tuned pitch is asked for last.
		{meantone(), []api.Pitch{{577}, {12}}, unit(0, 48), api.ErrArg}, {meantone(), quarter(), unit(1, 49), api.ErrArg}, {of(full(most), full(most)), []api.Pitch{{576}, {576}}, full(48), api.ErrArg},
	} {
		want := api.Pitch{}
		if x.e == api.OK {
			want, _ = wantTuned(x.m, x.gens, x.v)
		}
		expectTune(t, x.m, x.gens, x.v, want, x.e)
	}
}

func TestPureExamples(t *testing.T) {
	for _, x := range []struct {
		m    api.Map
		gens []api.Pitch
		v    api.Vec
		want bool
	}{
		{meantone(), quarter(), api.Vec{-1, 1}, false}, {meantone(), quarter(), api.Vec{-2, 0, 1}, true}, {meantone(), quarter(), unit(0, 48), true}, {meantone(), quarter(), unit(2, -48), true}, {meantone(), quarter(), api.Vec{}, true}, {meantone(), quarter(), api.Vec{-4, 4, -1}, false}, {meantone(), quarter(), unit(1, 1), false}, {meantone(), quarter(), unit(3, 1), false}, {meantone(), quarter(), api.Vec{3, 0, -7}, true},
		{twelve(), []api.Pitch{{1}}, unit(0, 1), true}, {twelve(), []api.Pitch{{1}}, api.Vec{-1, 1}, false}, {twelve(), []api.Pitch{{}}, unit(0, 1), false}, {twelve(), []api.Pitch{{}}, api.Vec{}, true}, {twelve(), []api.Pitch{{-1}}, unit(0, 1), false}, {twelve(), []api.Pitch{{1, 0, 0, 0, 0, 1}}, unit(0, 1), false},
		{of(unit(0, 1), unit(1, 1)), []api.Pitch{{12}, {0, 12}}, api.Vec{48, -48}, true}, {of(unit(0, 1), unit(1, 1)), []api.Pitch{{0, 12}, {12}}, api.Vec{1, -1}, false}, {of(unit(0, 1), unit(1, 1)), []api.Pitch{{0, 12}, {12}}, api.Vec{5, 5}, true},
	} {
		if got, e := temper.Pure(x.m, x.gens, x.v); got != x.want || e != api.OK {
			t.Errorf("Pure of %v by %v, %v: %v, %v", x.v, x.m, x.gens, got, e)
		}
	}
}

func TestTune(t *testing.T) {
	r := source()
	count := map[string]int{}
	for _, m := range temperaments() {
		for i := range 6 {
			gens := drawGenerators(r, len(m.Rows))
			list := intervals(r, m)
			if pures, more, ok := pureGenerators(r, m); ok && i > 2 {
				gens, list = pures, append(list, more...)
			}
			for _, v := range list {
				want, e := wantTuned(m, gens, v)
				expectTune(t, m, gens, v, want, e)
				own, _ := pitch.Of(v)
				switch {
				case e != api.OK:
					count["range"]++
				case want == api.Pitch{}:
					count["unison"]++
				case want == own:
					count["pure"]++
				default:
					count["other"]++
				}
			}
		}
	}
	for _, name := range []string{"range", "unison", "pure", "other"} {
		if count[name] < 1000 {
			t.Errorf("too few of a kind: %v", count)
		}
	}
}
