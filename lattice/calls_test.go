package lattice_test

import (
	"slices"
	"testing"

	"schisma/api"
	"schisma/lattice"
	"schisma/matrix"
)

// The tests of this file check P6.1, from F1 to F6.

// row is a vector as the only row of a matrix.
func row(v ...int) []api.Vec {
	var r api.Vec
	copy(r[:], v)
	return []api.Vec{r}
}

// example returns the rows A of the chapter's examples.
func example() []api.Vec {
	return []api.Vec{{-4, 4, -1}, {7, 0, -3}}
}

// far returns the rows of a lattice that has members of which a remainder is far from 0.
func far() []api.Vec {
	return []api.Vec{{1, 0, 3}, {0, 1, -3}}
}

// expectMember checks what Member and Reduce return.
func expectMember(t *testing.T, rows []api.Vec, v api.Vec, coefficients []int, rest api.Vec, e api.Errno) {
	t.Helper()
	in := e == api.OK && rest == api.Vec{}
	if !in {
		coefficients = nil
	}
	list, found, f := lattice.Member(rows, v)
	if !slices.Equal(list, coefficients) || found != in || f != e {
		t.Errorf("Member of %v, %v: %v, %v, %v; want %v, %v, %v", rows, v, list, found, f, coefficients, in, e)
	}
	last, f := lattice.Reduce(rows, v)
	if last != rest || f != e {
		t.Errorf("Reduce of %v, %v: %v, %v; want %v, %v", rows, v, last, f, rest, e)
	}
}

func TestMemberAndReduceExamples(t *testing.T) {
	for _, x := range []struct {
		rows         []api.Vec
		v            api.Vec
		coefficients []int
		rest         api.Vec
	}{
		{example(), api.Vec{3, 4, -4}, []int{3, -2}, api.Vec{}},
		{example(), api.Vec{-19, 12}, []int{-19, 14}, api.Vec{}},
		{example(), api.Vec{-1, 1}, nil, api.Vec{0, 21, -14}},
		{example(), api.Vec{}, []int{0, 0}, api.Vec{}},
		{nil, api.Vec{}, nil, api.Vec{}}, {zeros(8), api.Vec{}, nil, api.Vec{}}, {nil, api.Vec{0, 0, 0, 0, 0, 1}, nil, api.Vec{0, 0, 0, 0, 0, 1}}, {zeros(3), api.Vec{entry, -entry}, nil, api.Vec{entry, -entry}},
		{identity(), api.Vec{1, -2, 3, -4, entry, -entry}, []int{1, -2, 3, -4, entry, -entry}, api.Vec{}},
		// Negative entries are rounded down.
		{row(3), unit(0, 6), []int{2}, api.Vec{}}, {row(3), unit(0, 5), nil, unit(0, 2)}, {row(3), unit(0, 1), nil, unit(0, 1)}, {row(3), unit(0, -1), nil, unit(0, 2)}, {row(3), unit(0, -2), nil, unit(0, 1)}, {row(3), unit(0, -3), []int{-1}, api.Vec{}}, {row(3), unit(0, -4), nil, unit(0, 2)},
		{row(-3), unit(0, -6), []int{-2}, api.Vec{}}, {row(0, 0, -3, 1), api.Vec{0, 0, -7, 2}, nil, api.Vec{0, 0, 2, -1}}, {row(2, 5), api.Vec{-1, 0}, nil, api.Vec{1, 5}}, {row(2, 5), api.Vec{-3, -10}, nil, api.Vec{1, 0}},
		{[]api.Vec{{2, 1}, {0, 3}}, api.Vec{-3, -2}, nil, api.Vec{1, 0}}, {[]api.Vec{{2, 1}, {0, 3}}, api.Vec{-4, -5}, []int{-2, -1}, api.Vec{}}, {[]api.Vec{{0, 3}, {2, 1}}, api.Vec{4, -1}, []int{2, -1}, api.Vec{}},
		// The last rest is outside of the columns of the pivots, or in one of them alone.
		{row(2, 0, 0, 0, 0, 1), api.Vec{4, 0, 0, 0, 0, 3}, nil, unit(5, 1)}, {[]api.Vec{{2}, {0, 0, 2}}, api.Vec{4, 0, 5}, nil, unit(2, 1)}, {[]api.Vec{{2}, {0, 0, 2}}, api.Vec{5, 0, 4}, nil, unit(0, 1)}, {[]api.Vec{{2}, {0, 0, 2}}, api.Vec{4, -1, 4}, nil, unit(1, -1)},
		{row(entry), unit(0, entry), []int{1}, api.Vec{}}, {row(entry), unit(0, -entry), []int{-1}, api.Vec{}}, {row(entry), unit(0, -1), nil, unit(0, entry-1)}, {row(entry), unit(0, entry-1), nil, unit(0, entry-1)},
	} {
		expectMember(t, x.rows, x.v, x.coefficients, x.rest, api.OK)
	}
}

// TestRemaindersAtTheBounds checks remainders that are just valid, and such as are just not valid any more.
func TestRemaindersAtTheBounds(t *testing.T) {
	for _, x := range []struct {
		rows []api.Vec
		v    api.Vec
		rest api.Vec
		e    api.Errno
	}{
		{row(1, 1), api.Vec{entry, 0}, api.Vec{0, -entry}, api.OK}, {row(1, 1), api.Vec{entry, -1}, api.Vec{}, api.ErrRange}, {row(1, 1), api.Vec{-entry, 0}, api.Vec{0, entry}, api.OK}, {row(1, 1), api.Vec{-entry, 1}, api.Vec{}, api.ErrRange},
		{row(1, -1), api.Vec{entry, 0}, api.Vec{0, entry}, api.OK}, {row(1, -1), api.Vec{entry, 1}, api.Vec{}, api.ErrRange}, {row(0, 0, 0, 1, 0, 2), api.Vec{0, 0, 0, 500000000}, unit(5, -entry), api.OK}, {row(0, 0, 0, 1, 0, 2), api.Vec{0, 0, 0, 500000001}, api.Vec{}, api.ErrRange},
		{row(1, 999999999), api.Vec{1, -1}, unit(1, -entry), api.OK}, {row(1, 999999999), api.Vec{1, -2}, api.Vec{}, api.ErrRange}, {row(1, 999999999), api.Vec{entry}, api.Vec{}, api.ErrRange}, {row(1, -999999999), api.Vec{-entry, entry}, api.Vec{}, api.ErrRange},
		// The last entry of a remainder that is negative: the coefficient is rounded down, and so the next row is added.
		{row(2, 999999998), api.Vec{-1, 2}, api.Vec{1, entry}, api.OK}, {row(2, 999999998), api.Vec{-1, 3}, api.Vec{}, api.ErrRange},
		// Some remainder before the last one is not valid: of a member, of what the first row shows to be none, of what the last row shows to be none.
		{far(), api.Vec{333333333, 333333333}, api.Vec{}, api.OK}, {far(), api.Vec{333333334, 333333334}, api.Vec{}, api.ErrRange}, {far(), api.Vec{-333333334, -333333334}, api.Vec{}, api.ErrRange}, {far(), api.Vec{333333334, 333333334, 2}, unit(2, 2), api.OK}, {far(), api.Vec{333333334, 333333334, 1}, api.Vec{}, api.ErrRange},
		{[]api.Vec{{2}, {0, 1, 2}}, api.Vec{1, 500000000}, api.Vec{1, 0, -entry}, api.OK}, {[]api.Vec{{2}, {0, 1, 2}}, api.Vec{1, 500000001}, api.Vec{}, api.ErrRange}, {[]api.Vec{{1, 0, 2}, {0, 2, 1}}, api.Vec{500000001, 3}, api.Vec{}, api.ErrRange},
		// No remainder is far from 0 but for one of four rows.
		{[]api.Vec{{1, 0, 0, 0, 4}, {0, 1, 0, 0, -4}, {0, 0, 1}, {0, 0, 0, 1}}, api.Vec{250000001, 250000001, 1, 1}, api.Vec{}, api.ErrRange},
		{[]api.Vec{{1}, {0, 1}, {0, 0, 1, 0, 4}, {0, 0, 0, 1, -4}}, api.Vec{1, 1, 250000001, 250000001}, api.Vec{}, api.ErrRange}, {[]api.Vec{{1}, {0, 1}, {0, 0, 1, 0, 4}, {0, 0, 0, 1, -4}}, api.Vec{1, 1, 250000000, 250000001}, unit(4, 4), api.OK},
	} {
		list, _, _ := wantReduced(x.rows, x.v)
		expectMember(t, x.rows, x.v, list, x.rest, x.e)
	}
}

func TestMemberAndReduce(t *testing.T) {
	r := source()
	in, out, ranges := 0, 0, 0
	for _, rows := range matrices() {
		for _, v := range vectors(r, rows) {
			list, rest, e := wantReduced(rows, v)
			expectMember(t, rows, v, list, rest, e)
			switch {
			case e == api.ErrRange:
				ranges++
			case rest == api.Vec{}:
				in++
			default:
				out++
			}
		}
	}
	if min(in, out, ranges) < 1000 {
		t.Errorf("%d members, %d that are none, %d out of range", in, out, ranges)
	}
}

// expectSame checks what Same returns, in both orders.
func expectSame(t *testing.T, a, b []api.Vec, want bool) {
	t.Helper()
	for _, x := range [][2][]api.Vec{{a, b}, {b, a}} {
		if got, e := lattice.Same(x[0], x[1]); got != want || e != api.OK {
			t.Errorf("Same of %v, %v: %v, %v", x[0], x[1], got, e)
		}
	}
}

func TestSame(t *testing.T) {
	for _, x := range []struct {
		a, b []api.Vec
		want bool
	}{
		{nil, nil, true}, {nil, zeros(8), true}, {zeros(1), zeros(2), true}, {nil, row(1), false}, {zeros(3), row(0, 0, 0, 0, 0, 1), false},
		{row(4, -6), row(-4, 6), true}, {row(4, -6), row(2, -3), false}, {row(4), row(0, 4), false}, {[]api.Vec{{4}, {6}}, row(2), true}, {[]api.Vec{{4}, {6}}, row(4), false},
		{example(), []api.Vec{{1, 20, -14}, {0, 28, -19}}, true}, {example(), []api.Vec{{7, 0, -3}, {}, {-4, 4, -1}, {3, 4, -4}}, true}, {example(), []api.Vec{{7, 0, -3}, {-8, 8, -2}}, false}, {example(), example()[:1], false},
		{identity(), append(identity(), unit(3, 7)), true}, {identity(), identity()[1:], false}, {[]api.Vec{{1, 1}, {1, -1}}, []api.Vec{{1, 1}, {0, 2}}, true}, {[]api.Vec{{1, 1}, {1, -1}}, []api.Vec{{1}, {0, 2}}, false},
		{row(entry), row(-entry), true}, {row(entry), row(entry - 1), false}, {row(0, 999999999, 1), row(0, -999999999, -1), true}, {row(0, 999999999, 1), row(0, 999999999, -1), false},
	} {
		expectSame(t, x.a, x.b, x.want)
	}
}

// expectSum checks what Sum returns.
func expectSum(t *testing.T, a, b, want []api.Vec, e api.Errno) {
	t.Helper()
	if got, f := lattice.Sum(a, b); !slices.Equal(got, want) || f != e {
		t.Errorf("Sum of %v, %v: %v, %v; want %v, %v", a, b, got, f, want, e)
	}
}

func TestSumExamples(t *testing.T) {
	for _, x := range []struct {
		a, b, want []api.Vec
		e          api.Errno
	}{
		{nil, nil, nil, api.OK}, {zeros(3), nil, nil, api.OK}, {nil, row(-3, 1), row(3, -1), api.OK}, {row(-3, 1), zeros(1), row(3, -1), api.OK}, {row(4), row(6), row(2), api.OK}, {row(2), row(0, -3), []api.Vec{{2}, {0, 3}}, api.OK},
		{example()[:1], example()[1:], []api.Vec{{1, 20, -14}, {0, 28, -19}}, api.OK}, {example(), example(), []api.Vec{{1, 20, -14}, {0, 28, -19}}, api.OK}, {identity()[:4], identity()[2:], identity(), api.OK},
		// Eight rows are valid, nine are not.
		{zeros(4), zeros(4), nil, api.OK}, {zeros(8), nil, nil, api.OK}, {nil, zeros(8), nil, api.OK}, {zeros(4), zeros(5), nil, api.ErrLimit}, {zeros(8), zeros(1), nil, api.ErrLimit}, {zeros(1), zeros(8), nil, api.ErrLimit}, {zeros(8), zeros(8), nil, api.ErrLimit}, {zeros(7), row(5), row(5), api.OK}, {identity(), identity(), nil, api.ErrLimit},
		// A volume of 10^9 is valid.
		{row(500000000), row(2), row(2), api.OK}, {row(500000000, 1), row(2), nil, api.ErrLimit}, {row(500000000), row(2, 1), nil, api.ErrLimit}, {row(31622), row(31622), row(31622), api.OK}, {row(31623), row(31623), nil, api.ErrLimit}, {row(entry), row(entry), nil, api.ErrLimit}, {row(entry), row(1), row(1), api.OK}, {[]api.Vec{{100}, {0, 100}}, []api.Vec{{0, 0, 100}, {0, 0, 0, -100}}, []api.Vec{unit(0, 100), unit(1, 100), unit(2, 100), unit(3, 100)}, api.OK},
	} {
		expectSum(t, x.a, x.b, x.want, x.e)
	}
}

func TestSum(t *testing.T) {
	r := source()
	list := matrices()
	valids, limits := 0, 0
	for _, a := range list {
		for range 4 {
			b := list[r.IntN(len(list))]
			both := slices.Concat(a, b)
			if !matrix.Valid(both) {
				limits++
				expectSum(t, a, b, nil, api.ErrLimit)
				continue
			}
			valids++
			expectSum(t, a, b, basis(both), api.OK)
		}
	}
	if min(valids, limits) < 500 {
		t.Errorf("%d are valid, %d are not", valids, limits)
	}
}

// expectIndex checks what Index returns.
func expectIndex(t *testing.T, sub, sup []api.Vec, want int, e api.Errno) {
	t.Helper()
	if got, f := lattice.Index(sub, sup); got != want || f != e {
		t.Errorf("Index of %v, %v: %d, %v; want %d, %v", sub, sup, got, f, want, e)
	}
}

func TestIndexExamples(t *testing.T) {
	for _, x := range []struct {
		sub, sup []api.Vec
		want     int
		e        api.Errno
	}{
		{row(-8, 8, -2), row(-4, 4, -1), 2, api.OK}, {row(-8, 8, -2), example(), 0, api.OK},
		{nil, nil, 1, api.OK}, {zeros(8), nil, 1, api.OK}, {nil, zeros(2), 1, api.OK}, {nil, row(1), 0, api.OK}, {zeros(2), identity(), 0, api.OK}, {row(6), []api.Vec{{2}, {0, 5}}, 0, api.OK}, {row(1), []api.Vec{{1}, {0, 1}}, 0, api.OK},
		{example(), example(), 1, api.OK}, {example(), []api.Vec{{1, 20, -14}, {0, 28, -19}, {}}, 1, api.OK}, {[]api.Vec{{4}, {6}}, row(-2), 1, api.OK}, {identity(), identity(), 1, api.OK}, {row(entry), row(-entry), 1, api.OK},
		{row(6), row(2), 3, api.OK}, {row(-6), row(2), 3, api.OK}, {[]api.Vec{{2}, {0, 2}}, []api.Vec{{1}, {0, 1}}, 4, api.OK}, {[]api.Vec{{1, 1}, {1, -1}}, []api.Vec{{1}, {0, 1}}, 2, api.OK}, {[]api.Vec{{4}, {0, 6}}, []api.Vec{{2}, {0, 3}}, 4, api.OK}, {[]api.Vec{{2, 3}, {4, 9}}, []api.Vec{{2}, {0, 3}}, 1, api.OK}, {row(0, 0, 10, 20), row(0, 0, 2, 4), 5, api.OK},
		{row(entry), row(1), entry, api.OK}, {[]api.Vec{{1000}, {0, 1000}, {0, 0, 1000}}, identity()[:3], entry, api.OK}, {row(0, 500000000, 500000000), row(0, 1, 1), 500000000, api.OK},
		{row(1), nil, 0, api.ErrNone}, {row(1), row(2), 0, api.ErrNone}, {row(2, 1), row(2), 0, api.ErrNone}, {row(2), row(0, 2), 0, api.ErrNone}, {identity(), identity()[1:], 0, api.ErrNone}, {[]api.Vec{{4}, {}, {6}}, row(4), 0, api.ErrNone}, {[]api.Vec{{4}, {8}, {2}}, row(4), 0, api.ErrNone},
		// The first row that is not in the lattice, or whose remainder is not valid, decides.
		{row(500000000), row(1, 2), 0, api.ErrNone}, {row(500000001), row(1, 2), 0, api.ErrRange}, {[]api.Vec{{600000000}, {0, 1}}, row(1, 2), 0, api.ErrRange}, {[]api.Vec{{0, 1}, {600000000}}, row(1, 2), 0, api.ErrNone}, {[]api.Vec{{1}, {0, 400000000}, {0, 0, 1}}, []api.Vec{{1}, {0, 1, 3}}, 0, api.ErrRange}, {[]api.Vec{{1}, {0, 0, 1}, {0, 400000000}}, []api.Vec{{1}, {0, 1, 3}}, 0, api.ErrNone},
		{row(400000000, 400000000), far(), 0, api.ErrRange}, {row(300000000, 300000000), far(), 0, api.OK},
	} {
		expectIndex(t, x.sub, x.sup, x.want, x.e)
	}
}

func TestIndex(t *testing.T) {
	r := source()
	list := matrices()
	count := map[string]int{}
	note := func(sub, sup []api.Vec) {
		if !matrix.Valid(sub) {
			return
		}
		n, e := wantIndex(sub, sup)
		expectIndex(t, sub, sup, n, e)
		switch {
		case e != api.OK:
			count[e.Error()]++
		case n > 1:
			count["lesser"]++
		default:
			count[[]string{"none", "equal"}[n]]++
		}
	}
	for _, sup := range list {
		note(list[r.IntN(len(list))], sup)
		b := basis(sup)
		for _, top := range []int{1, 2, 5, 1000} {
			sub := zeros(r.IntN(9))
			for i := range sub {
				sub[i], _ = drawSum(r, b, top)
			}
			note(sub, sup)
			if len(sub) > 0 {
				i := r.IntN(len(sub))
				sub[i] = plus(sub[i], unit(r.IntN(6), 1), 1)
				note(sub, sup)
			}
		}
	}
	for name, least := range map[string]int{"lesser": 200, "none": 300, "equal": 100, api.ErrNone.Error(): 300, api.ErrRange.Error(): 20} {
		if count[name] < least {
			t.Errorf("too few of a kind: %v", count)
		}
	}
}

// expectOrder checks what Order returns.
func expectOrder(t *testing.T, rows []api.Vec, v api.Vec, want int, e api.Errno) {
	t.Helper()
	if got, f := lattice.Order(rows, v); got != want || f != e {
		t.Errorf("Order of %v, %v: %d, %v; want %d, %v", rows, v, got, f, want, e)
	}
}

func TestOrderExamples(t *testing.T) {
	for _, x := range []struct {
		rows []api.Vec
		v    api.Vec
		want int
		e    api.Errno
	}{
		{row(-8, 8, -2), api.Vec{-4, 4, -1}, 2, api.OK}, {example(), api.Vec{1}, 0, api.OK}, {example(), api.Vec{3, 4, -4}, 1, api.OK}, {example(), api.Vec{}, 1, api.OK},
		{nil, api.Vec{}, 1, api.OK}, {zeros(8), api.Vec{}, 1, api.OK}, {nil, api.Vec{0, 0, 0, 0, 0, 1}, 0, api.OK}, {zeros(2), api.Vec{entry, -entry}, 0, api.OK}, {identity(), api.Vec{1, -2, 3, -4, entry, -entry}, 1, api.OK},
		{row(4), unit(0, 1), 4, api.OK}, {row(4), unit(0, 2), 2, api.OK}, {row(4), unit(0, 3), 4, api.OK}, {row(4), unit(0, 4), 1, api.OK}, {row(4), unit(0, 6), 2, api.OK}, {row(4), unit(0, -2), 2, api.OK}, {row(4), unit(0, -1), 4, api.OK}, {row(-6), unit(0, -4), 3, api.OK}, {row(4), unit(1, 1), 0, api.OK}, {row(4), api.Vec{2, 1}, 0, api.OK},
		{[]api.Vec{{2}, {0, 3}}, api.Vec{1, 1}, 6, api.OK}, {[]api.Vec{{2}, {0, 2}}, api.Vec{1, 1}, 2, api.OK}, {[]api.Vec{{2, 1}, {0, 3}}, api.Vec{1}, 6, api.OK}, {[]api.Vec{{2, 1}, {0, 2}}, api.Vec{1}, 4, api.OK}, {[]api.Vec{{2, 1}, {0, 2}}, api.Vec{0, 1}, 2, api.OK}, {[]api.Vec{{2, 1}, {0, 2}}, api.Vec{-1, -1}, 4, api.OK}, {[]api.Vec{{2, 0, 1}, {0, 3}}, api.Vec{2, 1, 1}, 3, api.OK}, {[]api.Vec{{2, 0, 1}, {0, 3}}, api.Vec{2, 1}, 0, api.OK},
		{row(entry), unit(0, 1), entry, api.OK}, {row(entry), unit(0, -1), entry, api.OK}, {row(entry), unit(0, 500000000), 2, api.OK}, {row(entry), unit(0, entry), 1, api.OK}, {[]api.Vec{{1000}, {0, 1000}, {0, 0, 1000}}, api.Vec{1, 1, 1}, 1000, api.OK}, {[]api.Vec{{1000}, {0, 1009}, {0, 0, 991}}, api.Vec{1, 1, 1}, 999919000, api.OK},
		// A multiplied vector is just valid, or just not valid any more, though its multiple may be a member.
		{row(entry), api.Vec{1, 1}, 0, api.OK}, {row(entry), api.Vec{1, 2}, 0, api.ErrRange}, {row(entry), api.Vec{-1, -2}, 0, api.ErrRange}, {row(entry), unit(0, 3), 0, api.ErrRange}, {row(entry), unit(0, 999999999), 0, api.ErrRange}, {row(2, 400000000), api.Vec{1, 200000000}, 2, api.OK}, {row(2, 400000000), api.Vec{3, 600000000}, 0, api.ErrRange},
		{row(2, 999999998), api.Vec{1, 500000000}, 0, api.OK}, {row(2, 999999998), api.Vec{1, 500000001}, 0, api.ErrRange}, {row(2), api.Vec{1, -500000000}, 0, api.OK}, {row(2), api.Vec{1, -500000001}, 0, api.ErrRange}, {row(2), api.Vec{2, -entry}, 0, api.OK}, {row(500000001), api.Vec{1, entry, entry, entry, entry, entry}, 0, api.ErrRange},
		// A vector behind a subtraction is just valid, or just not valid any more.
		{row(1, 999999999), api.Vec{1, -1}, 0, api.OK}, {row(1, 999999999), api.Vec{1, -2}, 0, api.ErrRange}, {row(1, 999999999), api.Vec{-1, 1}, 0, api.OK}, {row(1, 999999999), api.Vec{-1, 2}, 0, api.ErrRange}, {row(1, 1), api.Vec{entry, 0}, 0, api.OK}, {row(1, 1), api.Vec{entry, -1}, 0, api.ErrRange},
		{far(), api.Vec{333333333, 333333333}, 1, api.OK}, {far(), api.Vec{333333334, 333333334}, 0, api.ErrRange}, {[]api.Vec{{2, 0, 6}, {0, 2, -6}}, api.Vec{166666665, 166666665}, 2, api.OK}, {[]api.Vec{{2, 0, 6}, {0, 2, -6}}, api.Vec{166666667, 166666667}, 0, api.ErrRange},
		// What the first row leaves is not valid, and its multiple by 2^29, which leaves an int, would be: 2^64 + 2^29, and 2^66 + 2^29 beside 2^64.
		{[]api.Vec{{1, 32768}, {16384}}, api.Vec{1 << 20, -1}, 0, api.ErrRange}, {[]api.Vec{{1, 32768}, {16384}}, api.Vec{-1 << 20, 1}, 0, api.ErrRange}, {[]api.Vec{{1, 32768}, {16384}}, api.Vec{0, -1}, 1 << 29, api.OK}, {[]api.Vec{{1, 32768, 8192}, {16384}}, api.Vec{1 << 22, -1}, 0, api.ErrRange},
		// The first row shows that there is no order, a later one goes out of range.
		{[]api.Vec{{1}, {0, 0, 2}}, api.Vec{0, 1, 1}, 0, api.OK}, {[]api.Vec{{1}, {0, 0, 2}}, api.Vec{0, 500000001, 1}, 0, api.ErrRange},
	} {
		expectOrder(t, x.rows, x.v, x.want, x.e)
	}
}

func TestOrder(t *testing.T) {
	r := source()
	count := map[string]int{}
	for _, rows := range matrices() {
		for _, v := range vectors(r, rows) {
			n, e := wantOrder(rows, v)
			expectOrder(t, rows, v, n, e)
			switch {
			case e == api.ErrRange:
				count["range"]++
			case n > 1:
				count["greater"]++
			default:
				count[[]string{"none", "one"}[n]]++
			}
		}
	}
	for _, name := range []string{"range", "greater", "none", "one"} {
		if count[name] < 1000 {
			t.Errorf("too few of a kind: %v", count)
		}
	}
}
