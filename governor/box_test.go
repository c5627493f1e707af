package governor_test

import (
	"math"
	"slices"
	"testing"

	"guidevane/api"
	"guidevane/governor"
)

func boxOf(ends ...int) api.GovernorBox {
	var b api.GovernorBox
	for i := 0; i < len(ends); i += 2 {
		b.Coefs = append(b.Coefs, api.Range{Lo: ends[i], Hi: ends[i+1]})
	}
	return b
}

// goodBox is the box of the examples.
func goodBox() api.GovernorBox {
	return boxOf(1, 1, 2, 3, 3, 4, 1, 2)
}

type badBox struct {
	box   api.GovernorBox
	index int
	want  api.Errno
}

// badBoxes returns boxes for each error of CheckBox, and for each order of two errors.
func badBoxes() []badBox {
	l := []badBox{
		{api.GovernorBox{}, 0, api.ErrShape}, {api.GovernorBox{Coefs: []api.Range{}}, 0, api.ErrShape}, {boxOf(1, 1), 0, api.ErrShape}, {boxOf(2, 1), 0, api.ErrShape}, {boxOf(1001, 1001), 0, api.ErrShape}, {boxOf(0, 0), 0, api.ErrShape},
		{boxOf(1, 1, 1, 1, 1, 1, 1, 1, 1, 1, 1, 1), 0, api.ErrLarge}, {api.GovernorBox{Coefs: make([]api.Range, 6)}, 0, api.ErrLarge}, {boxOf(1, 1, 2, 1, 1, 1, 1001, 1, 1, 1, 1, 1), 0, api.ErrLarge}, {api.GovernorBox{Coefs: make([]api.Range, 100)}, 0, api.ErrLarge},
	}
	for degree := 1; degree <= 4; degree++ {
		add := func(index int, want api.Errno, changes ...func(coefs []api.Range)) {
			b := api.GovernorBox{Coefs: slices.Repeat([]api.Range{{Lo: 5, Hi: 6}}, degree+1)}
			for _, change := range changes {
				change(b.Coefs)
			}
			l = append(l, badBox{b, index, want})
		}
		zero := func(coefs []api.Range) { coefs[0].Lo = 0 }
		for i := range degree + 1 {
			put := func(lo, hi int) func(coefs []api.Range) {
				return func(coefs []api.Range) { coefs[i] = api.Range{Lo: lo, Hi: hi} }
			}
			later := func(coefs []api.Range) {
				for k := range coefs[i+1:] {
					coefs[i+1+k] = api.Range{Lo: chosenBad(k), Hi: 0}
				}
			}
			for _, n := range outside(-1000, 1000) {
				add(i, api.ErrRange, put(n, 1000), later)
				add(i, api.ErrRange, put(1000, n), later)
				add(i, api.ErrRange, put(n, n))
				add(i, api.ErrRange, put(math.MaxInt, n), later)
				if i > 0 {
					add(i, api.ErrRange, zero, put(n, 0))
				}
			}
			add(i, api.ErrOrder, put(6, 5), later)
			add(i, api.ErrOrder, put(1000, -1000))
			if i > 0 {
				add(i, api.ErrOrder, zero, put(1, 0))
			}
		}
		for _, lo := range []int{0, -1, -1000} {
			add(0, api.ErrForm, func(coefs []api.Range) { coefs[0].Lo = lo })
			add(0, api.ErrForm, func(coefs []api.Range) { coefs[0] = api.Range{Lo: lo, Hi: lo} })
		}
		add(0, api.ErrOrder, func(coefs []api.Range) { coefs[0] = api.Range{Lo: 0, Hi: -1} })
	}
	return l
}

// chosenBad alternates between an end that is out of range and one that is in the wrong order.
func chosenBad(k int) int {
	return []int{1001, 1}[k%2]
}

// P6.5.
func TestCheckBox(t *testing.T) {
	for _, c := range badBoxes() {
		if i, e := governor.CheckBox(c.box); i != c.index || e != c.want {
			t.Error(c, i, e)
		}
	}
	for _, b := range []api.GovernorBox{goodBox(), boxOf(1, 1, 0, 0), boxOf(1, 1000, -1000, 1000), boxOf(1000, 1000, -1000, -1000, 1000, 1000), boxOf(1, 1000, -1000, 1000, -1000, 1000, -1000, 1000, -1000, 1000)} {
		if i, e := governor.CheckBox(b); i != 0 || e != api.OK {
			t.Error(b, i, e)
		}
	}
}

// P6.5 and example 5.
func TestCornersOf(t *testing.T) {
	for _, c := range []struct {
		box  api.GovernorBox
		want [][]int
	}{
		{goodBox(), [][]int{{1, 3, 3, 1}, {1, 2, 4, 2}, {1, 2, 3, 2}, {1, 3, 4, 1}}},
		{boxOf(1, 2, 3, 4), [][]int{{1, 3}, {2, 4}, {1, 4}, {2, 3}}},
		{boxOf(1, 2, 3, 4, 5, 6), [][]int{{2, 3, 5}, {1, 4, 6}, {1, 3, 6}, {2, 4, 5}}},
		{boxOf(1, 2, 3, 4, 5, 6, 7, 8), [][]int{{2, 4, 5, 7}, {1, 3, 6, 8}, {2, 3, 5, 8}, {1, 4, 6, 7}}},
		{boxOf(1, 2, 3, 4, 5, 6, 7, 8, 9, 10), [][]int{{1, 4, 6, 7, 9}, {2, 3, 5, 8, 10}, {2, 4, 5, 7, 10}, {1, 3, 6, 8, 9}}},
		{boxOf(5, 5, -5, -5), [][]int{{5, -5}, {5, -5}, {5, -5}, {5, -5}}},
	} {
		if l, e := governor.CornersOf(c.box); !sameTable(l, c.want) || e != api.OK {
			t.Error(c, l, e)
		}
	}
	r := random(18)
	for range 5000 {
		b := randomBox(r, randomPolynomial(r, between(r, 1, 4)))
		want := [][]int{modelCorner(b, 0), modelCorner(b, 2), modelCorner(b, 1), modelCorner(b, 3)}
		if l, e := governor.CornersOf(b); !sameTable(l, want) || e != api.OK {
			t.Fatal(b, l, e)
		}
	}
}

// P6.5 and example 5.
func TestIsRobust(t *testing.T) {
	for _, c := range []struct {
		box  api.GovernorBox
		want bool
	}{
		{goodBox(), true}, {boxOf(1, 1, 2, 3, 3, 4, 1, 5), true}, {boxOf(1, 1, 2, 3, 3, 4, 1, 6), false}, {boxOf(1, 1, 2, 3, 3, 4, 1, 7), false}, {boxOf(1, 1, 2, 3, 3, 4, 0, 2), false}, {boxOf(1, 5, 2, 3, 3, 4, 1, 1), true}, {boxOf(1, 6, 2, 3, 3, 4, 1, 1), false},
		{boxOf(1, 1000, 1, 1000), true}, {boxOf(1, 1000, 0, 1000), false}, {boxOf(1, 1000, 1, 1000, 1, 1000), true}, {boxOf(1, 1, 1, 1, -1, 1), false}, {boxOf(1, 1, 0, 1, 1, 1), false}, {boxOf(1, 1, -1, -1), false},
		{boxOf(1, 1, 4, 4, 6, 6, 4, 4, 1, 1), true}, {boxOf(1, 1, 4, 4, 6, 6, 4, 4, 1, 4), true}, {boxOf(1, 1, 4, 4, 6, 6, 4, 4, 1, 5), false}, {boxOf(1, 5, 4, 4, 6, 6, 4, 4, 1, 1), false}, {boxOf(1, 4, 4, 4, 6, 6, 4, 4, 1, 1), true},
	} {
		if is, e := governor.IsRobust(c.box); is != c.want || e != api.OK {
			t.Error(c, is, e)
		}
	}
	r := random(19)
	unstable := [5]int{}
	for range 20000 {
		b := randomBox(r, stablePolynomial(r, between(r, 1, 4)))
		if r.IntN(4) == 0 {
			b = randomBox(r, randomPolynomial(r, between(r, 1, 4)))
		}
		bad := 0
		for turn := range 4 {
			if !modelStable(modelCorner(b, turn)) {
				bad++
			}
		}
		unstable[bad]++
		if is, e := governor.IsRobust(b); is != (bad == 0) || e != api.OK {
			t.Fatal(b, is, e)
		}
	}
	if slices.Min(unstable[:]) < 20 {
		t.Error(unstable)
	}
}

// P6.5: the second and the third corner alone can make a box not robust. Where the first or the fourth one is not stable another one is not, either.
func TestEachCornerCounts(t *testing.T) {
	r := random(20)
	var alone [4]int
	for range 50000 {
		b := randomBox(r, stablePolynomial(r, between(r, 3, 4)))
		bad, last := 0, 0
		for turn := range 4 {
			if !modelStable(modelCorner(b, turn)) {
				bad, last = bad+1, turn
			}
		}
		if bad != 1 {
			continue
		}
		alone[last]++
		if is, e := governor.IsRobust(b); is || e != api.OK {
			t.Fatal(b, is, e)
		}
	}
	if alone[1] < 200 || alone[2] < 200 {
		t.Error(alone)
	}
}

// P6.12: every polynomial with coefficients in the ranges of a robust box is stable, and a box within it is robust.
func TestRobustBoxes(t *testing.T) {
	r := random(21)
	robust := 0
	for range 5000 {
		b := randomBox(r, stablePolynomial(r, between(r, 1, 4)))
		if is, _ := governor.IsRobust(b); !is {
			continue
		}
		robust++
		for range 10 {
			p := inside(r, b)
			if is, e := governor.IsStable(p); !is || e != api.OK {
				t.Fatal(b, p, is, e)
			}
			within := api.GovernorBox{}
			for i, q := range inside(r, b) {
				within.Coefs = append(within.Coefs, api.Range{Lo: min(p[i], q), Hi: max(p[i], q)})
			}
			if is, e := governor.IsRobust(within); !is || e != api.OK {
				t.Fatal(b, within, is, e)
			}
		}
	}
	if robust < 1000 {
		t.Error(robust)
	}
}

// P6.12: for all polynomials of some boxes.
func TestAllOfBoxes(t *testing.T) {
	r := random(22)
	robust, not := 0, 0
	for range 1000 {
		b := boxOf()
		for i, coef := range stablePolynomial(r, between(r, 1, 4)) {
			b.Coefs = append(b.Coefs, api.Range{Lo: coef - r.IntN(2), Hi: min(coef+r.IntN(4), 1000)})
			b.Coefs[i].Lo = max(b.Coefs[i].Lo, 1-min(i, 1))
		}
		all := true
		var grow func(p []int)
		grow = func(p []int) {
			if len(p) == len(b.Coefs) {
				all = all && modelStable(p)
				return
			}
			for n := b.Coefs[len(p)].Lo; n <= b.Coefs[len(p)].Hi; n++ {
				grow(append(slices.Clone(p), n))
			}
		}
		grow(nil)
		// The corners are some of all polynomials, so that the box is robust exactly if all are stable.
		if is, e := governor.IsRobust(b); is != all || e != api.OK {
			t.Fatal(b, is, e)
		}
		if all {
			robust++
		} else {
			not++
		}
	}
	if robust < 100 || not < 50 {
		t.Error(robust, not)
	}
}
