package dispatch_test

import (
	"slices"
	"testing"

	"guidevane/api"
	"guidevane/dispatch"
)

// P8.5 and example 6; edge case: a ramp of 0 keeps the power at start.
func TestFollowed(t *testing.T) {
	const most = api.MaxDispatchPower
	for _, c := range []struct {
		start, ramp  int
		wanted, want []int
	}{
		{0, 5, []int{12, 12, 3}, []int{5, 10, 5}},
		{0, 5, []int{-12, -12, -3}, []int{-5, -10, -5}},
		{3, 5, nil, nil},
		{3, 5, []int{}, nil},
		{3, 0, []int{3, 4, -9, 1000}, []int{3, 3, 3, 3}},
		{0, 5, []int{5, 0, -5, 1, -5}, []int{5, 0, -5, 0, -5}},
		{0, 5, []int{6, 1, -5, 1}, []int{5, 1, -4, 1}},
		{7, 1, []int{7, 8, 6, 9}, []int{7, 8, 7, 8}},
		{10, 20, []int{-15, 15, 36}, []int{-10, 10, 30}},
		{most, most, []int{-most, -most, most, 0}, []int{0, -most, 0, 0}},
		{-most, most, []int{most, most}, []int{0, most}},
		{-most, 0, []int{most}, []int{-most}},
		{most, 1, []int{-most, most, most}, []int{most - 1, most, most}},
	} {
		if l, e := dispatch.Followed(c.start, c.ramp, c.wanted); !slices.Equal(l, c.want) || e != api.OK {
			t.Error(c, l, e)
		}
	}
	if l, e := dispatch.Followed(0, 1, slices.Repeat([]int{most}, 300)); len(l) != 300 || l[0] != 1 || l[299] != 300 || e != api.OK {
		t.Error(l, e)
	}
}

// P8.5: errors of the start, of the ramp, and of the powers, in their order.
func TestFollowedErrors(t *testing.T) {
	const most = api.MaxDispatchPower
	expect := func(want api.Errno, start, ramp int, wanted []int) {
		t.Helper()
		if got := call(dispatch.Followed(start, ramp, wanted)); !failed(got, want) {
			t.Error(start, ramp, len(wanted), got, want)
		}
	}
	many := [][]int{make([]int, 301), slices.Repeat([]int{most + 1}, 301), make([]int, 10000)}
	for _, wanted := range append(many, nil, []int{5}, []int{most + 1}) {
		for _, n := range outside(-most, most) {
			expect(api.ErrRange, n, 5, wanted)
			expect(api.ErrRange, n, -1, wanted)
		}
		for _, n := range outside(0, most) {
			expect(api.ErrRange, 0, n, wanted)
			expect(api.ErrRange, most, n, wanted)
		}
	}
	for _, wanted := range many {
		expect(api.ErrLarge, 0, 5, wanted)
		expect(api.ErrLarge, -most, 0, wanted)
	}
	for _, n := range outside(-most, most) {
		for at := range 3 {
			wanted := []int{1, 2, 3}
			wanted[at] = n
			expect(api.ErrRange, most, most, wanted)
			expect(api.ErrRange, 0, 0, wanted)
		}
		expect(api.ErrRange, 0, 5, append(make([]int, 299), n))
	}
}

// P8.5 and P8.10: Followed never changes by more than the ramp, and reaches a constant wanted power.
func TestFollowedAgainstModel(t *testing.T) {
	r := random(14)
	for range 3000 {
		most := chosen(r, 3, 20, 200)
		power := func() int { return between(r, -most, most) }
		start, ramp := power(), chosen(r, 0, 1, r.IntN(10), r.IntN(2*most))
		var wanted []int
		for range r.IntN(40) {
			wanted = append(wanted, power())
		}
		l, e := dispatch.Followed(start, ramp, wanted)
		if !slices.Equal(l, modelFollowed(start, ramp, wanted)) || e != api.OK {
			t.Fatal(start, ramp, wanted, l, e)
		}
		for i, before := range append([]int{start}, l...) {
			if i < len(l) && (l[i]-before > ramp || before-l[i] > ramp) {
				t.Fatal(start, ramp, wanted, l)
			}
		}
		last, steps := power(), 300
		if l, e := dispatch.Followed(start, ramp, slices.Repeat([]int{last}, steps)); e != api.OK || ramp*steps >= 2*most && l[steps-1] != last {
			t.Fatal(start, ramp, last, l, e)
		}
	}
}

// P8.5 and example 6; edge cases: a power that is wanted as 0 makes all over, and without powers the settlement is zero.
func TestSettledOf(t *testing.T) {
	const most = api.MaxDispatchPower
	for _, c := range []struct {
		wanted, measured []int
		want             api.DispatchSettled
	}{
		{[]int{12, 12, 3}, []int{5, 10, 5}, api.DispatchSettled{Energy: 18, Missed: 9, Over: 2}},
		{nil, nil, api.DispatchSettled{}},
		{[]int{}, nil, api.DispatchSettled{}},
		{[]int{5}, []int{7}, api.DispatchSettled{Energy: 5, Over: 2}},
		{[]int{7}, []int{5}, api.DispatchSettled{Energy: 5, Missed: 2}},
		{[]int{5}, []int{5}, api.DispatchSettled{Energy: 5}},
		{[]int{-5}, []int{-7}, api.DispatchSettled{Energy: 5, Over: 2}},
		{[]int{-7}, []int{-5}, api.DispatchSettled{Energy: 5, Missed: 2}},
		{[]int{-7}, []int{5}, api.DispatchSettled{Missed: 7, Over: 5}},
		{[]int{7}, []int{-5}, api.DispatchSettled{Missed: 7, Over: 5}},
		{[]int{0}, []int{9}, api.DispatchSettled{Over: 9}},
		{[]int{0}, []int{-9}, api.DispatchSettled{Over: 9}},
		{[]int{9}, []int{0}, api.DispatchSettled{Missed: 9}},
		{[]int{-9}, []int{0}, api.DispatchSettled{Missed: 9}},
		{[]int{0, 0}, []int{0, 0}, api.DispatchSettled{}},
		{slices.Repeat([]int{most}, 300), slices.Repeat([]int{most}, 300), api.DispatchSettled{Energy: 300 * most}},
		{slices.Repeat([]int{-most}, 300), slices.Repeat([]int{-most}, 300), api.DispatchSettled{Energy: 300 * most}},
		{slices.Repeat([]int{-most}, 300), slices.Repeat([]int{most}, 300), api.DispatchSettled{Missed: 300 * most, Over: 300 * most}},
	} {
		if s, e := dispatch.SettledOf(c.wanted, c.measured); s != c.want || e != api.OK {
			t.Error(c, s, e)
		}
	}
}

// P8.5: errors of the wanted powers, of the measured ones, and of their numbers, in this order.
func TestSettledOfErrors(t *testing.T) {
	const most = api.MaxDispatchPower
	expect := func(want api.Errno, wanted, measured []int) {
		t.Helper()
		if got := call(dispatch.SettledOf(wanted, measured)); !failed(got, want) {
			t.Error(len(wanted), len(measured), got, want)
		}
	}
	large, bad := slices.Repeat([]int{most + 1}, 301), []int{1, most + 1}
	for _, l := range [][]int{nil, {1}, {1, 2}, bad, large, make([]int, 301)} {
		expect(api.ErrLarge, large, l)
		expect(api.ErrLarge, make([]int, 301), l)
		expect(api.ErrRange, bad, l)
	}
	for _, l := range [][]int{nil, {1}, {1, 2}, make([]int, 300)} {
		expect(api.ErrLarge, l, large)
		expect(api.ErrLarge, l, make([]int, 301))
		expect(api.ErrRange, l, bad)
	}
	for _, n := range outside(-most, most) {
		for at := range 3 {
			l := []int{1, 2, 3}
			l[at] = n
			expect(api.ErrRange, l, []int{1, 2, 3})
			expect(api.ErrRange, []int{1, 2, 3}, l)
			expect(api.ErrRange, l, l)
		}
	}
	for _, x := range [][2]int{{0, 1}, {1, 0}, {2, 3}, {3, 2}, {300, 299}, {0, 300}} {
		expect(api.ErrShape, make([]int, x[0]), make([]int, x[1]))
	}
}

// P8.5 and P8.10: the energy and what is missed are all that is wanted, the energy and what is over all that is measured.
func TestSettledAgainstModel(t *testing.T) {
	r := random(15)
	for range 3000 {
		most := chosen(r, 2, 9, 1000, api.MaxDispatchPower)
		var wanted, measured []int
		sumWanted, sumMeasured := 0, 0
		for range r.IntN(30) {
			w, m := chosen(r, 0, between(r, -most, most), between(r, 0, most)), chosen(r, 0, between(r, -most, most), between(r, 0, most))
			wanted, measured = append(wanted, w), append(measured, m)
			sumWanted, sumMeasured = sumWanted+max(w, -w), sumMeasured+max(m, -m)
		}
		s, e := dispatch.SettledOf(wanted, measured)
		if s != modelSettled(wanted, measured) || e != api.OK {
			t.Fatal(wanted, measured, s, e)
		}
		if s.Energy+s.Missed != sumWanted || s.Energy+s.Over != sumMeasured {
			t.Fatal(wanted, measured, s)
		}
	}
}
