package governor_test

import (
	"math"
	"slices"
	"testing"

	"guidevane/api"
	"guidevane/governor"
)

// goodPolynomial is the first polynomial of the examples.
func goodPolynomial() []int {
	return []int{1, 2, 3, 1}
}

type badPolynomial struct {
	p    []int
	want api.Errno
}

// badPolynomials returns polynomials for each error of CheckPolynomial, and for each order of two errors.
func badPolynomials() []badPolynomial {
	l := []badPolynomial{
		{nil, api.ErrShape}, {[]int{}, api.ErrShape}, {[]int{1}, api.ErrShape}, {[]int{0}, api.ErrShape}, {[]int{-1}, api.ErrShape}, {[]int{1001}, api.ErrShape},
		{[]int{1, 2, 3, 4, 5, 6}, api.ErrLarge}, {make([]int, 6), api.ErrLarge}, {[]int{1001, 0, 0, 0, 0, 0}, api.ErrLarge}, {[]int{1, 0, 0, 0, 0, math.MinInt}, api.ErrLarge}, {slices.Repeat([]int{-1}, 100), api.ErrLarge},
	}
	for degree := 1; degree <= 4; degree++ {
		good := func() []int { return slices.Repeat([]int{5}, degree+1) }
		for i := range degree + 1 {
			for _, n := range outside(-1000, 1000) {
				p := good()
				p[i] = n
				l = append(l, badPolynomial{slices.Clone(p), api.ErrRange})
				if i > 0 {
					p[0] = 0
					l = append(l, badPolynomial{p, api.ErrRange})
				}
			}
		}
		for _, n := range []int{0, -1, -1000} {
			p := good()
			p[0] = n
			l = append(l, badPolynomial{p, api.ErrForm})
		}
		l = append(l, badPolynomial{make([]int, degree+1), api.ErrForm})
	}
	return l
}

// P6.2.
func TestCheckPolynomial(t *testing.T) {
	for _, c := range badPolynomials() {
		if e := governor.CheckPolynomial(c.p); e != c.want {
			t.Error(c, e)
		}
	}
	for _, p := range [][]int{goodPolynomial(), {1, 0}, {1, -1000}, {1000, 1000}, {1, 0, 0}, {1, 0, 0, 0}, {1, 0, 0, 0, 0}, {1000, 1000, 1000, 1000, 1000}, {1, -1000, -1000, -1000, -1000}} {
		if e := governor.CheckPolynomial(p); e != api.OK {
			t.Error(p, e)
		}
	}
}

// P6.2 and example 3.
func TestValueAt(t *testing.T) {
	for _, c := range []struct {
		p      []int
		w      int
		re, im int
	}{
		{goodPolynomial(), 0, 1, 0}, {goodPolynomial(), 1, -1, 2}, {goodPolynomial(), 2, -7, -2}, {goodPolynomial(), 3, -17, -18},
		{[]int{1, 1}, 0, 1, 0}, {[]int{1, 1}, 5, 1, 5}, {[]int{3, -2}, 1000, -2, 3000}, {[]int{1, 0, 1}, 1, 0, 0}, {[]int{1, 0, 1}, 2, -3, 0}, {[]int{1, 0}, 0, 0, 0}, {[]int{2, 3, 5}, 7, -93, 21},
		{[]int{1, 2, 3, 4, 5}, 1, 3, 2}, {[]int{1, 2, 3, 4, 5}, 2, 9, -8}, {[]int{1, 2, 3, 4, 5}, 10, 9705, -1960},
		{[]int{1000, 1000, 1000, 1000, 1000}, 1000, 1000000000000000 - 1000000000 + 1000, -1000000000000 + 1000000}, {[]int{1000, -1000, -1000, 1000, 1000}, 1000, 1000000000000000 + 1000000000 + 1000, 1000000000000 + 1000000}, {[]int{1000, -999, -1000, 1000, -1}, 999, 996006994001999, 996006995001},
		{[]int{997, -1000, 1000, 1000, -1000}, 1000, 997000000000000 - 1000000000 - 1000, 1000000000000 + 1000000}, {[]int{1, 0, 0, 0, -1}, 1000, 999999999999, 0}, {[]int{1000, 0, 0, 1000}, 1000, 1000, -1000000000000},
	} {
		want := api.Gauss{Re: c.re, Im: c.im}
		if v, e := governor.ValueAt(c.p, c.w); v != want || e != api.OK {
			t.Error(c, v, e)
		}
		if v := modelValue(c.p, c.w); v != want {
			t.Error(c, v)
		}
	}
	r := random(6)
	for range 20000 {
		p, w := randomPolynomial(r, between(r, 1, 4)), r.IntN(chosen(r, 3, 20, 1001))
		if v, e := governor.ValueAt(p, w); v != modelValue(p, w) || e != api.OK {
			t.Fatal(p, w, v, e)
		}
	}
}

// P6.2.
func TestBadFrequencies(t *testing.T) {
	for _, w := range outside(0, 1000) {
		if v, e := governor.ValueAt(goodPolynomial(), w); v != (api.Gauss{}) || e != api.ErrRange {
			t.Error(w, v, e)
		}
	}
}

// P6.2, example 3, and the quadrants of numbers on their borders.
func TestQuadrantsOf(t *testing.T) {
	many := make([]int, 20)
	for i := range many {
		many[i] = 50*i + 50
	}
	for _, c := range []struct{ p, grid, want []int }{
		{goodPolynomial(), []int{0, 1, 2, 3}, []int{0, 1, 2, 2}}, {goodPolynomial(), nil, nil}, {goodPolynomial(), []int{2}, []int{2}}, {goodPolynomial(), []int{1000}, []int{2}},
		{[]int{1, 1}, []int{0, 1, 1000}, []int{0, 0, 0}}, {[]int{1, -1}, []int{0, 1}, []int{2, 1}}, {[]int{1, 0}, []int{1, 2}, []int{1, 1}}, {[]int{1, 0, 4}, []int{0, 1, 3}, []int{0, 0, 2}}, {[]int{1, -1, 4}, []int{0, 1, 2, 3}, []int{0, 3, 3, 2}}, {[]int{1, 1, 4}, []int{0, 1, 2, 3}, []int{0, 0, 1, 1}}, {[]int{1, -1, -4}, []int{0, 1}, []int{2, 2}},
		{[]int{1, 0, 0, 0}, []int{1, 5}, []int{3, 3}}, {[]int{1, 0, 0, 1}, []int{0, 1}, []int{0, 3}}, {[]int{1, 0, 0, -1}, []int{0, 1}, []int{2, 2}}, {[]int{1, 0, 0, 0, 0}, []int{1, 1000}, []int{0, 0}}, {[]int{1, 4, 6, 4, 1}, []int{0, 1, 2, 3}, []int{0, 2, 2, 3}}, {[]int{1, 4, 6, 4, 1}, many, []int{3, 3, 3, 3, 3, 3, 3, 3, 3, 3, 3, 3, 3, 3, 3, 3, 3, 3, 3, 3}},
	} {
		if l, e := governor.QuadrantsOf(c.p, c.grid); !slices.Equal(l, c.want) || e != api.OK {
			t.Error(c, l, e)
		}
	}
	r := random(7)
	zeros := 0
	for range 10000 {
		p, grid := randomPolynomial(r, between(r, 1, 4)), randomGrid(r)
		var quadrants []int
		want := api.OK
		for _, w := range grid {
			v := modelValue(p, w)
			if v == (api.Gauss{}) {
				quadrants, want = nil, api.ErrZero
				zeros++
				break
			}
			quadrants = append(quadrants, modelQuadrant(v))
		}
		if l, e := governor.QuadrantsOf(p, grid); !slices.Equal(l, quadrants) || e != want {
			t.Fatal(p, grid, l, e)
		}
	}
	if zeros < 100 {
		t.Error(zeros)
	}
}

// P6.2: errors of grids, in their order.
func TestBadGrids(t *testing.T) {
	ascending := func(n int) []int {
		var l []int
		for w := range n {
			l = append(l, w)
		}
		return l
	}
	circle := []int{1, 0, 1} // 0 at the frequency 1
	for _, c := range []struct {
		p, grid []int
		want    api.Errno
	}{
		{circle, ascending(21), api.ErrLarge}, {circle, make([]int, 21), api.ErrLarge}, {circle, slices.Repeat([]int{-1}, 21), api.ErrLarge}, {circle, slices.Repeat([]int{math.MaxInt}, 1000), api.ErrLarge},
		{circle, []int{-1}, api.ErrRange}, {circle, []int{1001}, api.ErrRange}, {circle, []int{1, 1001, 1001}, api.ErrRange}, {circle, []int{1, -1}, api.ErrRange}, {circle, []int{1, math.MinInt}, api.ErrRange}, {circle, []int{1, math.MaxInt}, api.ErrRange}, {circle, []int{5, 5, -1}, api.ErrOrder},
		{circle, []int{1, 1}, api.ErrOrder}, {circle, []int{1, 0}, api.ErrOrder}, {circle, []int{0, 1, 2, 1000, 1000}, api.ErrOrder}, {circle, []int{0, 0}, api.ErrOrder},
		{circle, []int{1}, api.ErrZero}, {circle, []int{0, 1, 2}, api.ErrZero}, {circle, ascending(20), api.ErrZero}, {[]int{1, 1, 0}, []int{0}, api.ErrZero}, {[]int{1, 0, 0, 0, -1}, []int{0, 1}, api.ErrZero}, {[]int{1, 1, 1000, 1000}, []int{0, 31, 32}, api.OK}, {[]int{1, 1, 961, 961}, []int{0, 31, 32}, api.ErrZero},
		{[]int{1, 1, 961, 961}, []int{0, 31, 31}, api.ErrOrder}, {[]int{1, 1, 961, 961}, []int{31, 32, 1001}, api.ErrRange},
	} {
		l, e := governor.QuadrantsOf(c.p, c.grid)
		if e != c.want || e != api.OK && len(l) > 0 {
			t.Error(c, l, e)
		}
	}
}

// P6.4 and example 4.
func TestShifted(t *testing.T) {
	for _, c := range []struct {
		p    []int
		by   int
		want []int
	}{
		{goodPolynomial(), -1, []int{1, -1, 2, -1}}, {goodPolynomial(), 0, goodPolynomial()}, {goodPolynomial(), 1, []int{1, 5, 10, 7}}, {[]int{1, 6, 11, 6}, -1, []int{1, 3, 2, 0}}, {[]int{1, 5, 6}, -1, []int{1, 3, 2}}, {[]int{1, 5, 6}, -2, []int{1, 1, 0}},
		{[]int{1, 0}, 10, []int{1, 10}}, {[]int{1, 0}, -10, []int{1, -10}}, {[]int{1, 0, 0, 0, 0}, 1, []int{1, 4, 6, 4, 1}}, {[]int{1, 0, 0, 0, 0}, -3, []int{1, -12, 54, -108, 81}}, {[]int{1, 0, 0, 0}, 10, []int{1, 30, 300, 1000}}, {[]int{1, 0, 0, 0}, -10, []int{1, -30, 300, -1000}}, {[]int{100, 0}, 10, []int{100, 1000}}, {[]int{100, 1000}, -10, []int{100, 0}}, {[]int{1000, 1000}, -2, []int{1000, -1000}},
	} {
		if q, e := governor.Shifted(c.p, c.by); !slices.Equal(q, c.want) || e != api.OK {
			t.Error(c, q, e)
		}
		if q := modelShifted(c.p, c.by); !slices.Equal(q, c.want) {
			t.Error(c, q)
		}
	}
	r := random(8)
	large := 0
	for range 20000 {
		p, by := randomPolynomial(r, between(r, 1, 4)), between(r, -10, 10)
		want, error := modelShifted(p, by), api.OK
		if !valid(want) {
			want, error = nil, api.ErrLarge
			large++
		}
		if q, e := governor.Shifted(p, by); !slices.Equal(q, want) || e != error {
			t.Fatal(p, by, q, e)
		}
	}
	if large < 2000 || large > 18000 {
		t.Error(large)
	}
}

// P6.4: errors of Shifted.
func TestBadShifts(t *testing.T) {
	for _, by := range outside(-10, 10) {
		for _, p := range [][]int{goodPolynomial(), {1000, 1000, 1000, 1000, 1000}} {
			if q, e := governor.Shifted(p, by); len(q) > 0 || e != api.ErrRange {
				t.Error(by, q, e)
			}
		}
	}
	for _, c := range []struct {
		p  []int
		by int
	}{{[]int{100, 1}, 10}, {[]int{1, 0, 0, 1}, 10}, {[]int{1, 0, 0, -1}, -10}, {[]int{1000, 1000}, -3}, {[]int{1000, 1000}, 1}, {[]int{1, 0, 0, 0, 0}, 6}, {[]int{1, 0, 0, 0, 0}, -6}, {[]int{1000, 1000, 1000, 1000, 1000}, 10}, {[]int{1000, 1000, 1000, 1000, 1000}, -10}, {[]int{101, 0}, 10}, {[]int{1, 981, 0}, 10}, {[]int{1, 1000, 7}, 1}, {[]int{1, 0, 1000, 0}, 1}} {
		if q, e := governor.Shifted(c.p, c.by); len(q) > 0 || e != api.ErrLarge {
			t.Error(c, q, e)
		}
	}
}

// P6.4, example 4, and the edge case that the margin may be 0.
func TestMarginOf(t *testing.T) {
	for _, c := range []struct {
		p    []int
		want int
	}{
		{goodPolynomial(), 0}, {[]int{1, 6, 11, 6}, 0}, {[]int{1, 5, 6}, 1}, {[]int{1, 20}, 10}, {[]int{1, 11}, 10}, {[]int{1, 10}, 9}, {[]int{1, 1}, 0}, {[]int{2, 3}, 1}, {[]int{2, 5}, 2}, {[]int{3, 1}, 0}, {[]int{1000, 1}, 0}, {[]int{1, 1000}, 10},
		{[]int{1, 2, 1000}, 0}, {[]int{1, 3, 1000}, 1}, {[]int{1, 20, 1000}, 9}, {[]int{1, 21, 1000}, 10}, {[]int{1, 20, 99}, 8}, {[]int{1, 20, 100}, 9}, {[]int{1, 4, 6, 4, 1}, 0}, {[]int{1, 12, 54, 108, 81}, 2}, {[]int{1, 20, 150, 500, 625}, 4}, {[]int{1, 22, 121}, 10}, {[]int{1, 30, 300, 1000}, 9},
	} {
		if m, e := governor.MarginOf(c.p); m != c.want || e != api.OK {
			t.Error(c, m, e)
		}
	}
	for _, p := range [][]int{{1, -1}, {1, 0}, {1, 0, 1}, {1, 1, 1, 3}, {1, -1, 2, -1}, {1, 3, 2, 0}, {1, 1, 1, 1, 1}, {1, -1000, 0}} {
		if m, e := governor.MarginOf(p); m != 0 || e != api.ErrNone {
			t.Error(p, m, e)
		}
	}
	r := random(9)
	var margins [11]int
	for range 20000 {
		p := randomPolynomial(r, between(r, 1, 4))
		if r.IntN(4) > 0 {
			p = stablePolynomial(r, between(r, 1, 4))
		}
		want, error := modelMargin(p), api.OK
		if want < 0 {
			want, error = 0, api.ErrNone
		} else {
			margins[want]++
		}
		if m, e := governor.MarginOf(p); m != want || e != error {
			t.Fatal(p, m, e, want)
		}
	}
	if slices.Min(margins[:]) < 20 {
		t.Error(margins)
	}
}

// P6.4: all roots have a real part below minus the margin, also those of real factors, and of pairs.
func TestMarginOfProducts(t *testing.T) {
	r := random(10)
	for range 5000 {
		a, b, c := between(r, 1, 20), between(r, 1, 20), between(r, 0, 5)
		p := product([]int{1, a}, []int{1, 2 * b, b*b + c*c}) // the roots -a, and -b with c i and -c i
		if !valid(p) {
			continue
		}
		if m, e := governor.MarginOf(p); m != min(a-1, b-1, 10) || e != api.OK {
			t.Fatal(a, b, c, m, e)
		}
	}
}
