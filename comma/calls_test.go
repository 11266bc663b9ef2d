package comma_test

import (
	"math/rand/v2"
	"slices"
	"strconv"
	"strings"
	"testing"

	"schisma/api"
	"schisma/comma"
)

// The tests of this file check P8.1, from H1 to H7.

// expectValid checks what Valid returns.
func expectValid(t *testing.T, list []api.Named, want bool) {
	t.Helper()
	if got := comma.Valid(list); got != want {
		t.Errorf("Valid of %v: %v", list, got)
	}
}

func TestValidExamples(t *testing.T) {
	for _, list := range special() {
		expectValid(t, list, true)
		if !wantValid(list) {
			t.Errorf("%v is not to be valid", list)
		}
	}
	for _, list := range noLists() {
		expectValid(t, list, false)
	}
	for n := range 10 {
		list := slices.Repeat(units(6), 2)[:n]
		for i := range list {
			list[i].Name = strings.Repeat("x", i+1)
		}
		expectValid(t, list, n >= 1 && n <= 6)
	}
	for n := range 20 {
		expectValid(t, renamed(example(), 1, strings.Repeat("q", n)), n >= 1 && n <= 16)
	}
	for b := range 256 {
		small := b >= 'a' && b <= 'z'
		expectValid(t, renamed(units(1), 0, string([]byte{byte(b)})), small)
		expectValid(t, renamed(units(2), 1, string([]byte{'x', byte(b), 'x'})), small)
	}
	for c := range 6 {
		for _, n := range []int{1, -1, exp, -exp} {
			expectValid(t, named(unit(c, n)), true)
			expectValid(t, named(full(1), unit(c, n)), true)
		}
		for _, n := range []int{0, exp + 1, -exp - 1} {
			expectValid(t, named(unit(c, n)), false)
			expectValid(t, named(full(1), unit(c, n)), false)
		}
	}
}

func TestValid(t *testing.T) {
	r := source()
	var count [2][7]int
	for range 6000 {
		n := 1 + r.IntN(6)
		list := drawList(r, n)
		switch i := r.IntN(n); r.IntN(6) {
		case 0:
			list[i].V = drawRow(r, exp+1)
		case 1:
			list[i].V = plus(list[0].V, list[n-1].V, number(r, 2))
		case 2:
			list[i].Name = list[r.IntN(n)].Name
		}
		want := wantValid(list)
		expectValid(t, list, want)
		if want {
			count[1][n]++
		} else {
			count[0][n]++
		}
	}
	if slices.Min(count[0][1:]) < 50 || slices.Min(count[1][1:]) < 50 {
		t.Errorf("too few lists of some length: %v", count)
	}
}

// expectFind checks what Find returns.
func expectFind(t *testing.T, list []api.Named, name string, want int, e api.Errno) {
	t.Helper()
	if got, f := comma.Find(list, name); got != want || f != e {
		t.Errorf("Find of %q in %v: %v, %v; want %v, %v", name, list, got, f, want, e)
	}
}

func TestFind(t *testing.T) {
	expectFind(t, example(), "syntonic", 0, api.OK)
	expectFind(t, example(), "schisma", 1, api.OK)
	for _, name := range []string{"diesis", "syntoni", "syntonicc", "ssyntonic", "yntonic", "schism", "schismas", "s", "a", "1", "syntonic*1", "syntonic schisma"} {
		expectFind(t, example(), name, 0, api.ErrNone)
	}
	for _, list := range lists() {
		for i, x := range list {
			expectFind(t, list, x.Name, i, api.OK)
		}
		for _, name := range badNames() {
			expectFind(t, list, name, 0, api.ErrNone)
		}
		expectFind(t, list, "notoneoftheseall", 0, api.ErrNone)
	}
	for _, list := range noLists() {
		for _, name := range []string{"a", "b", "g", "", "syntonic", "notoneoftheseall"} {
			expectFind(t, list, name, 0, api.ErrArg)
		}
		if len(list) > 0 {
			expectFind(t, list, list[len(list)-1].Name, 0, api.ErrArg)
		}
	}
}

// expectSum checks what Sum returns.
func expectSum(t *testing.T, list []api.Named, counts []int, want api.Vec, e api.Errno) {
	t.Helper()
	if got, f := comma.Sum(list, counts); got != want || f != e {
		t.Errorf("Sum of %v in %v: %v, %v; want %v, %v", counts, list, got, f, want, e)
	}
}

func TestSumExamples(t *testing.T) {
	for _, x := range []struct {
		list   []api.Named
		counts []int
		want   api.Vec
		e      api.Errno
	}{
		{example(), []int{1, 1}, api.Vec{-19, 12}, api.OK}, {example(), []int{2, -1}, api.Vec{7, 0, -3}, api.OK}, {example(), []int{0, 0}, api.Vec{}, api.OK}, {example(), []int{1, 0}, api.Vec{-4, 4, -1}, api.OK}, {example(), []int{0, -1}, api.Vec{15, -8, -1}, api.OK},
		{example(), []int{12, 0}, api.Vec{-48, 48, -12}, api.OK}, {example(), []int{-12, 0}, api.Vec{48, -48, 12}, api.OK}, {example(), []int{13, 0}, api.Vec{}, api.ErrRange}, {example(), []int{-13, 0}, api.Vec{}, api.ErrRange}, {example(), []int{1000, 1000}, api.Vec{}, api.ErrRange}, {example(), []int{15, -4}, api.Vec{0, 28, -19}, api.OK},
		// Counts at the bound, and behind it.
		{near(), []int{1000, -975}, api.Vec{25}, api.OK}, {near(), []int{-1000, 975}, api.Vec{-25}, api.OK}, {near(), []int{1000, -1000}, api.Vec{0, -1000}, api.ErrRange}, {near(), []int{1001, -976}, api.Vec{}, api.ErrArg}, {near(), []int{-1001, 976}, api.Vec{}, api.ErrArg}, {near(), []int{40, -39}, api.Vec{1}, api.OK}, {near(), []int{1025, -1000}, api.Vec{}, api.ErrArg},
		{named(unit(0, 1)), []int{48}, api.Vec{48}, api.OK}, {named(unit(0, 1)), []int{-48}, api.Vec{-48}, api.OK}, {named(unit(0, 1)), []int{49}, api.Vec{}, api.ErrRange}, {named(unit(0, 1)), []int{-49}, api.Vec{}, api.ErrRange}, {named(unit(0, 1)), []int{1000}, api.Vec{}, api.ErrRange}, {named(unit(0, 1)), []int{-1000}, api.Vec{}, api.ErrRange}, {named(unit(0, 1)), []int{1001}, api.Vec{}, api.ErrArg}, {named(unit(0, 1)), []int{-1001}, api.Vec{}, api.ErrArg},
		{named(full(exp)), []int{1}, full(exp), api.OK}, {named(full(exp)), []int{-1}, full(-exp), api.OK}, {named(full(exp)), []int{2}, api.Vec{}, api.ErrRange}, {units(6), []int{1, -2, 3, -4, 5, 48}, api.Vec{1, -2, 3, -4, 5, 48}, api.OK}, {units(6), []int{1, -2, 3, -4, 5, 49}, api.Vec{}, api.ErrRange}, {units(6), []int{-49, -2, 3, -4, 5, 4}, api.Vec{}, api.ErrRange},
		// Too few counts and too many of them.
		{example(), nil, api.Vec{}, api.ErrArg}, {example(), []int{}, api.Vec{}, api.ErrArg}, {example(), []int{1}, api.Vec{}, api.ErrArg}, {example(), []int{0}, api.Vec{}, api.ErrArg}, {example(), []int{1, 1, 0}, api.Vec{}, api.ErrArg}, {example(), []int{1, 1, 1}, api.Vec{}, api.ErrArg}, {example(), make([]int, 1000), api.Vec{}, api.ErrArg}, {units(6), make([]int, 5), api.Vec{}, api.ErrArg}, {units(6), make([]int, 6), api.Vec{}, api.OK}, {units(6), make([]int, 7), api.Vec{}, api.ErrArg},
		// What is no account would be a valid interval if an int were not left.
		{named(unit(0, 2)), []int{-1 << 63}, api.Vec{}, api.ErrArg}, {named(unit(0, 16)), []int{1 << 60}, api.Vec{}, api.ErrArg}, {named(unit(0, 1), unit(1, 4)), []int{1, 1<<62 + 1}, api.Vec{}, api.ErrArg}, {example(), []int{1<<63 - 1, 0}, api.Vec{}, api.ErrArg},
		// Several errors: the sum is asked for last.
		{named(unit(0, 1), unit(1, 1)), []int{49, 1001}, api.Vec{}, api.ErrArg}, {named(unit(0, 1), unit(1, 1)), []int{1001, 49}, api.Vec{}, api.ErrArg}, {named(unit(0, 1), unit(1, 1)), []int{1000, 1000, 1000}, api.Vec{}, api.ErrArg}, {named(unit(0, 1), unit(0, 2)), []int{1000, 1000}, api.Vec{}, api.ErrArg},
	} {
		expectSum(t, x.list, x.counts, withError(x.want, x.e), x.e)
	}
}

// withError returns v, or zeros if there is an error.
func withError(v api.Vec, e api.Errno) api.Vec {
	if e != api.OK {
		return api.Vec{}
	}
	return v
}

func TestSum(t *testing.T) {
	r := source()
	var count [2]int
	for _, list := range lists() {
		for range 40 {
			counts := drawCounts(r, list)
			want, e := wantSum(list, counts)
			expectSum(t, list, counts, want, e)
			if e == api.OK {
				count[1]++
			} else {
				count[0]++
			}
			i := r.IntN(len(counts))
			counts[i] = []int{most + 1, -most - 1, 1 << 40, -1 << 62}[r.IntN(4)]
			expectSum(t, list, counts, api.Vec{}, api.ErrArg)
			expectSum(t, list, counts[:i], api.Vec{}, api.ErrArg)
		}
	}
	if slices.Min(count[:]) < 1000 {
		t.Errorf("too few sums: %v", count)
	}
}

// expectCounts checks what Counts returns.
func expectCounts(t *testing.T, list []api.Named, v api.Vec, want []int, e api.Errno) {
	t.Helper()
	if got, f := comma.Counts(list, v); !slices.Equal(got, want) || f != e {
		t.Errorf("Counts of %v in %v: %v, %v; want %v, %v", v, list, got, f, want, e)
	}
}

func TestCountsExamples(t *testing.T) {
	half := named(api.Vec{1, 39}, api.Vec{1, 40}, unit(2, 2))
	for _, x := range []struct {
		list []api.Named
		v    api.Vec
		want []int
		e    api.Errno
	}{
		{example(), api.Vec{-19, 12}, []int{1, 1}, api.OK}, {example(), api.Vec{7, 0, -3}, []int{2, -1}, api.OK}, {example(), unit(0, 1), nil, api.ErrNone}, {example(), api.Vec{}, []int{0, 0}, api.OK}, {example(), api.Vec{-4, 4, -1}, []int{1, 0}, api.OK}, {example(), api.Vec{15, -8, -1}, []int{0, -1}, api.OK}, {example(), api.Vec{-4, 4, -1, 1}, nil, api.ErrNone}, {example(), api.Vec{-4, 4, -1, 0, 0, -1}, nil, api.ErrNone}, {example(), api.Vec{-48, 48, -12}, []int{12, 0}, api.OK}, {example(), api.Vec{0, 28, -19}, []int{15, -4}, api.OK},
		// Multiples that are no integers.
		{named(unit(0, 2)), unit(0, 1), nil, api.ErrNone}, {named(unit(0, 2)), unit(0, 48), []int{24}, api.OK}, {named(unit(0, 2)), unit(0, -47), nil, api.ErrNone}, {named(unit(0, -3)), unit(0, 45), []int{-15}, api.OK}, {named(api.Vec{1, 1}, api.Vec{1, -1}), unit(0, 1), nil, api.ErrNone}, {named(api.Vec{1, 1}, api.Vec{1, -1}), unit(0, 2), []int{1, 1}, api.OK}, {named(api.Vec{1, 1}, api.Vec{1, -1}), unit(1, 2), []int{1, -1}, api.OK}, {named(api.Vec{-8, 8, -2}), api.Vec{-4, 4, -1}, nil, api.ErrNone},
		// Multiples at the bound, and beyond it.
		{near(), api.Vec{25}, []int{1000, -975}, api.OK}, {near(), api.Vec{-25}, []int{-1000, 975}, api.OK}, {near(), api.Vec{25, -1}, nil, api.ErrRange}, {near(), api.Vec{-25, 1}, nil, api.ErrRange}, {near(), api.Vec{25, 1}, []int{999, -974}, api.OK}, {near(), api.Vec{48, 48}, nil, api.ErrRange}, {near(), api.Vec{0, 48}, []int{-48, 48}, api.OK}, {near(), full(48), nil, api.ErrNone},
		{named(api.Vec{1, 40}, api.Vec{1, 39}), api.Vec{25}, []int{-975, 1000}, api.OK}, {named(api.Vec{1, 40}, api.Vec{1, 39}), api.Vec{-25}, []int{975, -1000}, api.OK}, {named(api.Vec{1, 40}, api.Vec{1, 39}), api.Vec{25, -1}, nil, api.ErrRange}, {named(api.Vec{1, 40}, api.Vec{1, 39}), api.Vec{-25, 1}, nil, api.ErrRange}, {named(api.Vec{48, 47}, api.Vec{47, 46}), unit(0, 48), nil, api.ErrRange}, {named(api.Vec{48, 47}, api.Vec{47, 46}), unit(1, 20), []int{940, -960}, api.OK},
		// Several errors: what is no sum has no multiples, and what is no interval is asked for first.
		{half, api.Vec{26, 0, 2}, nil, api.ErrRange}, {half, api.Vec{26, 0, 1}, nil, api.ErrNone}, {half, api.Vec{26, 0, 2, 1}, nil, api.ErrNone}, {half, api.Vec{25, 0, 2}, []int{1000, -975, 1}, api.OK}, {named(unit(0, 1)), unit(0, 49), nil, api.ErrArg}, {named(unit(0, 1)), unit(1, 49), nil, api.ErrArg}, {near(), api.Vec{49, 0}, nil, api.ErrArg}, {near(), api.Vec{1, 39, 0, 0, 0, -49}, nil, api.ErrArg}, {named(unit(0, 1), unit(0, 2)), unit(0, 1), nil, api.ErrArg},
	} {
		expectCounts(t, x.list, x.v, x.want, x.e)
	}
	for _, v := range noIntervals() {
		expectCounts(t, units(6), v, nil, api.ErrArg)
		expectCounts(t, example(), v, nil, api.ErrArg)
	}
}

func TestCounts(t *testing.T) {
	r := source()
	count := map[api.Errno]int{}
	all := lists()
	for k := 20; k < exp; k++ {
		all = append(all, named(api.Vec{1, k}, api.Vec{1, k + 1}), named(api.Vec{k + 1, 0, k}, api.Vec{0, 1}, api.Vec{k, 0, k - 1}))
	}
	for _, list := range all {
		for _, v := range drawIntervals(r, list) {
			want, e := wantCounts(list, v)
			expectCounts(t, list, v, want, e)
			count[e]++
		}
	}
	if min(count[api.OK], count[api.ErrNone]) < 2000 || count[api.ErrRange] < 100 {
		t.Errorf("too few of a kind: %v", count)
	}
}

// TestCountsAllSmall checks all small intervals in three columns against all accounts with small counts.
func TestCountsAllSmall(t *testing.T) {
	r := source()
	for range 25 {
		list := named(api.Vec{number(r, 2), number(r, 2), number(r, 1)}, api.Vec{number(r, 2), number(r, 2), number(r, 1)})
		if !comma.Valid(list) {
			continue
		}
		want := map[api.Vec][]int{}
		for i := -24; i <= 24; i++ { // as much as Cramer's rule leads to: twice 4 * 2, and less
			for j := -24; j <= 24; j++ {
				want[plus(plus(api.Vec{}, list[0].V, i), list[1].V, j)] = []int{i, j}
			}
		}
		for n := range 729 { // 9^3
			v := api.Vec{n%9 - 4, n/9%9 - 4, n/81 - 4}
			counts, e := want[v], api.OK
			if counts == nil {
				e = api.ErrNone
			}
			expectCounts(t, list, v, counts, e)
		}
	}
}

// expectText checks what Text returns.
func expectText(t *testing.T, list []api.Named, counts []int, want string, e api.Errno) {
	t.Helper()
	if got, f := comma.Text(list, counts); got != want || f != e {
		t.Errorf("Text of %v in %v: %q, %v; want %q, %v", counts, list, got, f, want, e)
	}
}

func TestTextExamples(t *testing.T) {
	for _, x := range []struct {
		list   []api.Named
		counts []int
		want   string
		e      api.Errno
	}{
		{example(), []int{2, -1}, "syntonic*2 schisma*-1", api.OK}, {example(), []int{0, 0}, "1", api.OK}, {example(), []int{1, 0}, "syntonic*1", api.OK}, {example(), []int{0, 1}, "schisma*1", api.OK}, {example(), []int{-1, 0}, "syntonic*-1", api.OK}, {example(), []int{1000, -1000}, "syntonic*1000 schisma*-1000", api.OK}, {example(), []int{-10, 100}, "syntonic*-10 schisma*100", api.OK},
		{units(6), []int{0, 0, 0, 0, 0, 0}, "1", api.OK}, {units(6), []int{1, 2, 3, 4, 5, 6}, "a*1 b*2 c*3 d*4 e*5 f*6", api.OK}, {units(6), []int{0, 2, 0, 0, -5, 0}, "b*2 e*-5", api.OK}, {units(6), []int{0, 0, 0, 0, 0, -5}, "f*-5", api.OK}, {units(1), []int{0}, "1", api.OK}, {units(1), []int{1}, "a*1", api.OK}, {renamed(units(1), 0, "zzzzzzzzzzzzzzzz"), []int{-1000}, "zzzzzzzzzzzzzzzz*-1000", api.OK},
		// The order is that of the list, not of the names; and the interval need not be valid.
		{[]api.Named{{Name: "z", V: unit(0, 1)}, {Name: "b", V: unit(1, 1)}, {Name: "a", V: unit(2, 1)}}, []int{1, 0, 3}, "z*1 a*3", api.OK}, {named(full(exp)), []int{1000}, "a*1000", api.OK}, {named(full(exp)), []int{-2}, "a*-2", api.OK},
		{example(), []int{1001, 0}, "", api.ErrArg}, {example(), []int{0, -1001}, "", api.ErrArg}, {example(), nil, "", api.ErrArg}, {example(), []int{1}, "", api.ErrArg}, {example(), []int{0, 0, 0}, "", api.ErrArg}, {example(), []int{0, 1 << 62}, "", api.ErrArg}, {units(1), nil, "", api.ErrArg}, {nil, nil, "", api.ErrArg}, {named(api.Vec{}), []int{0}, "", api.ErrArg},
	} {
		expectText(t, x.list, x.counts, x.want, x.e)
	}
}

func TestText(t *testing.T) {
	r := source()
	for n := -1001; n <= 1001; n++ {
		want, e := "a*"+strconv.Itoa(n), api.OK
		switch {
		case n == 0:
			want = "1"
		case !within([]int{n}, 1000):
			want, e = "", api.ErrArg
		}
		expectText(t, units(1), []int{n}, want, e)
	}
	for _, list := range lists() {
		for range 10 {
			counts := drawCounts(r, list)
			want := ""
			for i, n := range counts {
				if n != 0 {
					want += " " + list[i].Name + "*" + strconv.Itoa(n)
				}
			}
			if want == "" {
				want = " 1"
			}
			expectText(t, list, counts, want[1:], api.OK)
		}
	}
}

// expectParse checks what Parse returns.
func expectParse(t *testing.T, list []api.Named, s string, want []int, e api.Errno) {
	t.Helper()
	if got, f := comma.Parse(list, s); !slices.Equal(got, want) || f != e {
		t.Errorf("Parse of %q in %v: %v, %v; want %v, %v", s, list, got, f, want, e)
	}
}

func TestParseExamples(t *testing.T) {
	for _, x := range []struct {
		s    string
		want []int
	}{
		{"1", []int{0, 0}}, {"syntonic*2 schisma*-1", []int{2, -1}}, {"syntonic*1", []int{1, 0}}, {"schisma*1", []int{0, 1}}, {"schisma*-10", []int{0, -10}}, {"syntonic*1000 schisma*-1000", []int{1000, -1000}}, {"syntonic*-1000 schisma*1000", []int{-1000, 1000}}, {"syntonic*999", []int{999, 0}},
	} {
		expectParse(t, example(), x.s, x.want, api.OK)
	}
	for _, s := range []string{
		"", " ", "  ", "0", "2", "-1", "+1", "01", "1 ", " 1", "1 1", "1*1", "11", "*", "*1", "**", "-", "1.0", "\x00", "unison",
		// A wrong order, and parts that stand there twice.
		"schisma*-1 syntonic*2", "schisma*1 syntonic*1", "syntonic*1 syntonic*1", "syntonic*2 syntonic*2", "syntonic*1 syntonic*-1", "schisma*1 schisma*1", "syntonic*1 schisma*1 schisma*1", "syntonic*1 syntonic*1 schisma*1", "syntonic*1 schisma*1 syntonic*1", "syntonic*0 syntonic*1", "syntonic*1 1", "1 syntonic*1", "1 schisma*1", "syntonic*1 schisma*1 1",
		// Counts of 0.
		"syntonic*0", "syntonic*0 schisma*0", "syntonic*0 schisma*1", "syntonic*1 schisma*0", "schisma*0", "syntonic*-0", "syntonic*00",
		// A sign or a zero too many, or what is no integer.
		"syntonic*+1", "syntonic*--1", "syntonic*-+1", "syntonic*+-1", "syntonic*01", "syntonic*-01", "syntonic*001", "syntonic*+0", "syntonic*1 schisma*-02", "syntonic*1 schisma*+2", "syntonic*1-", "syntonic*1+", "syntonic*", "syntonic*-", "syntonic", "syntonic schisma", "syntonic*1 schisma", "syntonic*1 schisma*", "syntonic*x", "syntonic*1x", "syntonic*1.5", "syntonic*1e2", "syntonic*0x1", "syntonic*1_0", "syntonic*1_000", "syntonic*١", "syntonic*１",
		// Counts beyond the bound.
		"syntonic*1001", "syntonic*-1001", "schisma*1001", "schisma*-1001", "syntonic*10000", "syntonic*9223372036854775807", "syntonic*9223372036854775808", "syntonic*-9223372036854775808", "syntonic*-9223372036854775809", "syntonic*18446744073709551617", "syntonic*4294967297", "syntonic*99999999999999999999999999999", "syntonic*1 schisma*18446744073709551617",
		// Blanks and stars too many or too few.
		"syntonic*2  schisma*-1", " syntonic*2 schisma*-1", "syntonic*2 schisma*-1 ", "syntonic*2schisma*-1", "syntonic *2", "syntonic* 2", "syntonic*2 schisma* -1", "syntonic*2 schisma*- 1", "syntonic 2", "syntonic2", "syntonic**2", "syntonic*2*", "*syntonic*2", "syntonic*2*3", "syntonic*2*schisma*-1", "syntonic*2\tschisma*-1", "syntonic*2\nschisma*-1", "syntonic*2\n", "syntonic*2\x00", "syntonic*2,schisma*-1", "syntonic*2\u00a0schisma*-1",
		// Names that are not in the list, whatever stands there besides.
		"diesis*1", "syntoni*1", "syntonicc*1", "Syntonic*1", "SYNTONIC*1", "schism*1", "s*1", "a*1", "*1 syntonic*1", "syntonic*1 diesis*1", "diesis*1 syntonic*1", "syntonic*1 diesis*1 schisma*1", "syntonic*1 diesis*0", "diesis*0 syntonic*1", "diesis*0", "diesis", "syntonic*1 diesis", "syntonic*1 *0", "syntonic*1 *1", "syntonic*1 0", "2*syntonic", "syntonic^2", "syntonic*2\xff", "\xffsyntonic*2",
	} {
		expectParse(t, example(), s, nil, api.ErrForm)
	}
	for _, list := range noLists() {
		for _, s := range []string{"1", "", "a*1", "b*-1", "syntonic*1", "g*1", "*1"} {
			expectParse(t, list, s, nil, api.ErrArg)
		}
	}
}

// TestParseLong checks strings that are far longer than any text, and that other names in them are not kept.
func TestParseLong(t *testing.T) {
	names := []byte("syntonic*1")
	for n := range 17576 { // 26^3
		names = append(names, ' ', byte('a'+n%26), byte('a'+n/26%26), byte('a'+n/676), '*', '1')
	}
	for _, s := range []string{string(names), strings.Repeat("syntonic*1 ", 100000), strings.Repeat(" ", 1000000), "syntonic*" + strings.Repeat("1", 1000000), strings.Repeat("syntonic", 100000)} {
		if got, e := comma.Parse(example(), s); len(got) > 0 || e != api.ErrForm {
			t.Errorf("Parse of %q, and so on: %v, %v", s[:20], got, e)
		}
	}
	list, long := example(), string(names)
	few := testing.AllocsPerRun(10, func() { comma.Parse(list, long[:len("syntonic*1 aaa*1")]) })
	if many := testing.AllocsPerRun(10, func() { comma.Parse(list, long) }); many > few+10 {
		t.Errorf("%v allocations for a long string, %v for a short one", many, few)
	}
}

// TestParseAllShort checks all strings of up to six bytes of some that stand in texts.
func TestParseAllShort(t *testing.T) {
	list := []api.Named{{Name: "b", V: unit(0, 1)}, {Name: "a", V: unit(1, 1)}, {Name: "ab", V: unit(2, 1)}}
	const bytes = "ab*-10 "
	good := 0
	for length := range 7 {
		total := 1
		for range length {
			total *= len(bytes)
		}
		for n := range total {
			s := make([]byte, length)
			for i := range s {
				s[i] = bytes[n%len(bytes)]
				n /= len(bytes)
			}
			want, e := wantParse(list, string(s))
			expectParse(t, list, string(s), want, e)
			if e == api.OK {
				good++
			}
		}
	}
	if good < 20 {
		t.Errorf("only %d texts", good)
	}
}

// TestParseChanged checks texts, and texts of which a few bytes are changed, left out, put in or exchanged.
func TestParseChanged(t *testing.T) {
	r := source()
	count := map[api.Errno]int{}
	for _, list := range lists() {
		for range 60 {
			s, _ := comma.Text(list, drawCounts(r, list))
			for range r.IntN(3) {
				s = changed(r, s, list)
			}
			want, e := wantParse(list, s)
			expectParse(t, list, s, want, e)
			count[e]++
		}
	}
	if min(count[api.OK], count[api.ErrForm]) < 4000 {
		t.Errorf("too few of a kind: %v", count)
	}
}

// changed returns a string that is near to s.
func changed(r *rand.Rand, s string, list []api.Named) string {
	i := r.IntN(len(s) + 1)
	j := i + r.IntN(min(len(s)-i, 3)+1)
	b := "*- 0123456789+azbx"[r.IntN(18):][:1]
	switch r.IntN(6) {
	case 0:
		return s[:i] + s[j:]
	case 1:
		return s[:i] + b + s[i:]
	case 2:
		return s[:i] + b + s[j:]
	case 3:
		return s[:i] + s[i:j] + s[i:j] + s[j:]
	case 4:
		return s + " " + list[r.IntN(len(list))].Name + "*" + strconv.Itoa(number(r, 3))
	}
	parts := strings.Split(s, " ")
	k, l := r.IntN(len(parts)), r.IntN(len(parts))
	parts[k], parts[l] = parts[l], parts[k]
	return strings.Join(parts, " ")
}

// expectWalk checks what Walk returns.
func expectWalk(t *testing.T, list []api.Named, takes []api.Take, want []api.Vec, e api.Errno) {
	t.Helper()
	if got, f := comma.Walk(list, takes); !slices.Equal(got, want) || f != e {
		t.Errorf("Walk of %v in %v: %v, %v; want %v, %v", takes, list, got, f, want, e)
	}
}

// steps returns the takes of some counts of the first comma.
func steps(counts ...int) []api.Take {
	var takes []api.Take
	for i, n := range counts {
		takes = append(takes, api.Take{Section: i + 1, Count: n, Desk: i % 8})
	}
	return takes
}

func TestWalkExamples(t *testing.T) {
	takes := []api.Take{{Section: 1, Comma: 0, Count: 1}, {Section: 2, Comma: 1, Count: -1}}
	expectWalk(t, example(), takes, []api.Vec{{}, {-4, 4, -1}, {11, -4, -2}}, api.OK)
	expectWalk(t, example(), nil, []api.Vec{{}}, api.OK)
	expectWalk(t, example(), []api.Take{}, []api.Vec{{}}, api.OK)
	expectWalk(t, example(), steps(0), []api.Vec{{}, {}}, api.OK)
	expectWalk(t, example(), steps(0, 0, 1, 0, -1), []api.Vec{{}, {}, {}, {-4, 4, -1}, {-4, 4, -1}, {}}, api.OK)
	last := []api.Take{{Section: 1, Comma: 5, Count: -1, Desk: 7}, {Section: 2, Comma: 0, Count: 0, Desk: 7}, {Section: 3, Comma: 5, Count: -1}}
	expectWalk(t, units(6), last, []api.Vec{{}, unit(5, -1), unit(5, -1), unit(5, -2)}, api.OK)
	expectWalk(t, units(5), last, nil, api.ErrArg)
	// Shifts at the bound of intervals, and beyond it for a while.
	for _, sign := range []int{1, -1} {
		for c := range 6 {
			expectWalk(t, named(unit(c, 24*sign)), steps(1, 1), []api.Vec{{}, unit(c, 24*sign), unit(c, 48*sign)}, api.OK)
			expectWalk(t, named(unit(c, 24*sign)), steps(-1, -1), []api.Vec{{}, unit(c, -24*sign), unit(c, -48*sign)}, api.OK)
			expectWalk(t, named(unit(c, 24*sign)), steps(1, 1, 1), nil, api.ErrRange)
			expectWalk(t, named(unit(c, 24*sign)), steps(1, 1, 1, -1), nil, api.ErrRange)
			expectWalk(t, named(unit(c, 25*sign)), steps(1, 1, -1), nil, api.ErrRange)
			expectWalk(t, named(unit(c, 48*sign)), steps(0, -1, 1, -1), []api.Vec{{}, {}, unit(c, -48*sign), {}, unit(c, -48*sign)}, api.OK)
		}
	}
	fifteen := slices.Repeat([]int{1}, 15)
	expectWalk(t, named(unit(0, 4)), steps(fifteen...), nil, api.ErrRange)
	shifts := []api.Vec{{}}
	for i := range fifteen {
		shifts = append(shifts, unit(0, 3*(i+1)))
	}
	expectWalk(t, named(unit(0, 3)), steps(fifteen...), shifts, api.OK)
	// Several errors: takes that are not valid are asked for first, wherever they are.
	expectWalk(t, named(full(exp)), steps(append(fifteen, 1)...), nil, api.ErrArg)
	expectWalk(t, named(full(exp)), steps(append(fifteen[1:], 2)...), nil, api.ErrArg)
	expectWalk(t, named(full(exp)), steps(1, 1, 1, 1<<62), nil, api.ErrArg)
	expectWalk(t, named(full(exp)), append(steps(1, 1), api.Take{Section: 4}), nil, api.ErrArg)
	expectWalk(t, named(api.Vec{}), steps(1), nil, api.ErrArg)
}

func TestWalk(t *testing.T) {
	r := source()
	count := map[api.Errno]int{}
	for _, list := range lists() {
		for n := range 16 {
			takes := drawTakes(r, len(list), n)
			want, e := wantWalk(list, takes)
			expectWalk(t, list, takes, want, e)
			count[e]++
		}
		expectWalk(t, list, drawTakes(r, len(list), 16), nil, api.ErrArg)
	}
	if min(count[api.OK], count[api.ErrRange]) < 500 {
		t.Errorf("too few of a kind: %v", count)
	}
}

func TestWalkTakes(t *testing.T) {
	for _, takes := range noTakes() {
		if wantTaken(2, takes) {
			t.Errorf("%v are valid", takes)
		}
		for _, list := range [][]api.Named{example(), near(), named(full(exp), unit(5, exp)), units(1)} {
			expectWalk(t, list, takes, nil, api.ErrArg)
		}
	}
	for _, list := range noLists() {
		for _, takes := range [][]api.Take{nil, steps(0), steps(1), steps(1, -1), noTakes()[0]} {
			expectWalk(t, list, takes, nil, api.ErrArg)
		}
	}
	r := source()
	var count [2]int
	for range 20000 {
		takes := drawTakes(r, 2, r.IntN(5))
		if len(takes) > 0 {
			i := r.IntN(len(takes))
			takes[i].Section += r.IntN(20) / 19
			takes[i].Comma += number(r, 10) / 9
			takes[i].Count += number(r, 10) / 9
			takes[i].Desk += number(r, 2)
		}
		if wantTaken(2, takes) {
			want, e := wantWalk(example(), takes)
			expectWalk(t, example(), takes, want, e)
			count[1]++
		} else {
			expectWalk(t, example(), takes, nil, api.ErrArg)
			count[0]++
		}
	}
	if slices.Min(count[:]) < 3000 {
		t.Errorf("too few takes: %v", count)
	}
}
