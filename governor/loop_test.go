package governor_test

import (
	"math"
	"slices"
	"testing"

	"guidevane/api"
	"guidevane/governor"
)

// goodLoop is the loop of the examples.
func goodLoop() api.GovernorLoop {
	return api.GovernorLoop{Common: []int{1, 1, 2, 1}, Machines: [][]int{{0, 0, 0, 2}}}
}

type badLoop struct {
	loop  api.GovernorLoop
	index int
	want  api.Errno
}

// badLoops returns loops for each error of CheckLoop, and for each order of two errors.
func badLoops() []badLoop {
	var l []badLoop
	for _, c := range badPolynomials() {
		l = append(l, badLoop{api.GovernorLoop{Common: c.p}, 0, c.want}, badLoop{api.GovernorLoop{Common: c.p, Machines: make([][]int, 7)}, 0, c.want}, badLoop{api.GovernorLoop{Common: c.p, Machines: [][]int{c.p, {101}}}, 0, c.want})
	}
	add := func(index int, want api.Errno, changes ...func(x *api.GovernorLoop)) {
		x := api.GovernorLoop{Common: []int{5, 6, 7}, Machines: [][]int{{0, 1, 2}, {3, 4, 5}, {6, 7, 8}}}
		for _, change := range changes {
			change(&x)
		}
		l = append(l, badLoop{x, index, want})
	}
	common := func(p ...int) func(x *api.GovernorLoop) {
		return func(x *api.GovernorLoop) { x.Common = p }
	}
	machine := func(i int, coefs ...int) func(x *api.GovernorLoop) {
		return func(x *api.GovernorLoop) { x.Machines[i] = coefs }
	}
	machines := func(n int, coefs ...int) func(x *api.GovernorLoop) {
		return func(x *api.GovernorLoop) { x.Machines = slices.Repeat([][]int{coefs}, n) }
	}
	add(0, api.ErrLarge, machines(7, 0, 0, 0))
	add(0, api.ErrLarge, machines(7, 0))
	add(0, api.ErrLarge, machines(7, 101, 0, 0))
	add(0, api.ErrLarge, machines(100))
	for i := range 3 {
		later := func(x *api.GovernorLoop) {
			for k := i + 1; k < 3; k++ {
				x.Machines[k] = []int{[]int{101, 0}[k%2]}
			}
		}
		for _, coefs := range [][]int{nil, {0}, {0, 0}, {0, 0, 0, 0}, {101, 0}, {0, 0, 0, 101}, {math.MinInt, 0, 0, 0}} {
			add(i, api.ErrShape, machine(i, coefs...), later)
			add(i, api.ErrShape, machine(i, coefs...), func(x *api.GovernorLoop) { x.Machines[(i+1)%3][0], x.Machines[(i+2)%3][0] = -100, -100 })
		}
		for k := range 3 {
			for _, n := range outside(-100, 100) {
				coefs := []int{0, 0, 0}
				coefs[k] = n
				add(i, api.ErrRange, machine(i, coefs...), later)
				add(i, api.ErrRange, machine(i, coefs...), machine((i+1)%3, -100, 0, 0), common(100, 1000, 1000))
			}
		}
	}
	add(0, api.ErrForm, machine(0, -5, 0, 0))
	add(0, api.ErrForm, machine(2, -6, 0, 0))
	add(0, api.ErrForm, machine(0, -2, 0, 0), machine(1, 100, 0, 0), machine(2, -3, 0, 0))
	add(0, api.ErrForm, machine(0, -100, 0, 0), machine(1, -100, 0, 0), machine(2, -100, 0, 0), common(300, 0, 0))
	add(0, api.ErrForm, machine(1, -5, 1, 0), common(5, 1000, 0))
	add(0, api.ErrLarge, common(1000, 6, 7))
	add(0, api.ErrLarge, common(992, 6, 7))
	add(0, api.ErrLarge, common(992, 6, 7), machine(0, -1, 0, 0), machine(1, -3, 0, 0), machine(2, -5, 0, 0))
	add(0, api.ErrLarge, common(5, 989, 7))
	add(0, api.ErrLarge, common(5, -989, 7))
	add(0, api.ErrLarge, common(5, 6, 986))
	add(0, api.ErrLarge, common(5, 6, -986))
	add(0, api.ErrLarge, common(5, 6, 992), machine(0, 0, 0, -3), machine(1, 0, 0, 3), machine(2, 0, 0, -3))
	add(0, api.ErrLarge, machines(6, 0, 0, 100), common(5, 6, 401))
	return l
}

// P6.6.
func TestCheckLoop(t *testing.T) {
	for _, c := range badLoops() {
		if i, e := governor.CheckLoop(c.loop); i != c.index || e != c.want {
			t.Error(c, i, e)
		}
	}
	for _, l := range []api.GovernorLoop{
		goodLoop(), {Common: []int{1, -1000}}, {Common: []int{1, 1}, Machines: [][]int{{0, 0}}},
		{Common: []int{5, 6, 7}, Machines: [][]int{{-4, 0, 0}, {100, 100, 100}, {0, -100, -100}}},
		{Common: []int{301, 0, 0}, Machines: [][]int{{-100, 0, 0}, {-100, 0, 0}, {-100, 0, 0}}},
		{Common: []int{400, -400, 400, -400, 400}, Machines: slices.Repeat([][]int{{100, 100, 100, -100, -100}}, 6)},
		{Common: []int{601, 1}, Machines: slices.Repeat([][]int{{-66, 100}}, 6)},
		{Common: []int{997, 1000, -1000}, Machines: [][]int{{1, 0, 0}, {-2, 0, 0}}},
	} {
		if i, e := governor.CheckLoop(l); i != 0 || e != api.OK {
			t.Error(l, i, e)
		}
	}
	r := random(23)
	counts := map[api.Errno]int{}
	for range 10000 {
		l := api.GovernorLoop{Common: randomPolynomial(r, between(r, 1, 4))}
		most := chosen(r, 1, 10, 100)
		for range r.IntN(7) {
			machine := make([]int, len(l.Common))
			for i := range machine {
				machine[i] = between(r, -most, most)
			}
			l.Machines = append(l.Machines, machine)
		}
		want := modelSums(l)
		counts[want]++
		if i, e := governor.CheckLoop(l); i != 0 || e != want {
			t.Fatal(l, i, e)
		}
	}
	for _, e := range []api.Errno{api.OK, api.ErrForm, api.ErrLarge} {
		if counts[e] < 200 {
			t.Error(counts)
		}
	}
}

// P6.6 and example 6.
func TestSumFor(t *testing.T) {
	l := api.GovernorLoop{Common: []int{5, 6, -7}, Machines: [][]int{{0, 1, 2}, {-3, 40, 5}, {6, -7, 8}}}
	for _, c := range []struct {
		loop      api.GovernorLoop
		set, want []int
	}{
		{goodLoop(), nil, []int{1, 1, 2, 1}}, {goodLoop(), []int{0}, []int{1, 1, 2, 3}},
		{l, []int{}, []int{5, 6, -7}}, {l, []int{0}, []int{5, 7, -5}}, {l, []int{1}, []int{2, 46, -2}}, {l, []int{2}, []int{11, -1, 1}}, {l, []int{0, 1}, []int{2, 47, 0}}, {l, []int{0, 2}, []int{11, 0, 3}}, {l, []int{1, 2}, []int{8, 39, 6}}, {l, []int{0, 1, 2}, []int{8, 40, 8}},
	} {
		if p, e := governor.SumFor(c.loop, c.set); !slices.Equal(p, c.want) || e != api.OK {
			t.Error(c, p, e)
		}
	}
	r := random(24)
	for range 2000 {
		l := randomLoop(r)
		for _, set := range allSets(len(l.Machines)) {
			if p, e := governor.SumFor(l, set); !slices.Equal(p, modelSum(l, set)) || e != api.OK || governor.CheckPolynomial(p) != api.OK {
				t.Fatal(l, set, p, e)
			}
		}
	}
}

// P6.6: errors of sets.
func TestBadSets(t *testing.T) {
	l := api.GovernorLoop{Common: []int{5, 6, 7}, Machines: [][]int{{0, 1, 2}, {3, 4, 5}, {6, 7, 8}}}
	for _, c := range []struct {
		loop api.GovernorLoop
		set  []int
		want api.Errno
	}{
		{l, []int{3}, api.ErrMissing}, {l, []int{-1}, api.ErrMissing}, {l, []int{0, 1, 2, 3}, api.ErrMissing}, {l, []int{1, -1}, api.ErrMissing}, {l, []int{math.MinInt}, api.ErrMissing}, {l, []int{math.MaxInt}, api.ErrMissing}, {l, []int{3, 3}, api.ErrMissing}, {l, []int{0, 3, 1, 1}, api.ErrMissing},
		{l, []int{0, 0}, api.ErrOrder}, {l, []int{1, 0}, api.ErrOrder}, {l, []int{0, 1, 1}, api.ErrOrder}, {l, []int{0, 2, 1}, api.ErrOrder}, {l, []int{1, 1, 3}, api.ErrOrder}, {l, []int{0, 1, 2, 2}, api.ErrOrder}, {l, slices.Repeat([]int{2}, 100), api.ErrOrder},
		{api.GovernorLoop{Common: []int{1, 1}}, []int{0}, api.ErrMissing}, {api.GovernorLoop{Common: []int{1, 1}}, []int{-1}, api.ErrMissing}, {goodLoop(), []int{1}, api.ErrMissing}, {goodLoop(), []int{0, 1}, api.ErrMissing},
	} {
		if p, e := governor.SumFor(c.loop, c.set); len(p) > 0 || e != c.want {
			t.Error(c, p, e)
		}
	}
}

// P6.6, example 6, and the edge case of a loop without machines.
func TestUnstableSet(t *testing.T) {
	common := []int{1, 1, 2, 1}
	for _, c := range []struct {
		loop api.GovernorLoop
		want []int
		e    api.Errno
	}{
		{goodLoop(), []int{0}, api.OK}, {api.GovernorLoop{Common: common}, nil, api.ErrNone}, {api.GovernorLoop{Common: []int{1, 1, 1, 3}}, []int{}, api.OK}, {api.GovernorLoop{Common: []int{1, 1, 1, 3}, Machines: [][]int{{0, 0, 0, 1}, {0, 0, 0, -2}}}, []int{}, api.OK},
		{api.GovernorLoop{Common: common, Machines: [][]int{{0, 0, 0, 2}, {0, 1, 0, 0}}}, []int{0}, api.OK}, {api.GovernorLoop{Common: common, Machines: [][]int{{0, 1, 0, 0}}}, nil, api.ErrNone}, {api.GovernorLoop{Common: common, Machines: [][]int{{0, 1, 0, 0}, {0, 0, 0, 2}}}, []int{1}, api.OK},
		{api.GovernorLoop{Common: []int{1, 4}, Machines: [][]int{{0, -1}, {0, -2}, {0, -2}, {0, -1}}}, []int{1, 2}, api.OK},
		{api.GovernorLoop{Common: []int{1, 4}, Machines: [][]int{{0, -1}, {0, -2}, {0, -1}, {0, -1}}}, []int{0, 1, 2}, api.OK},
		{api.GovernorLoop{Common: []int{1, 4}, Machines: [][]int{{0, -1}, {0, -1}, {0, -3}, {0, -3}}}, []int{0, 2}, api.OK},
		{api.GovernorLoop{Common: []int{1, 6}, Machines: slices.Repeat([][]int{{0, -1}}, 6)}, []int{0, 1, 2, 3, 4, 5}, api.OK},
		{api.GovernorLoop{Common: []int{1, 7}, Machines: slices.Repeat([][]int{{0, -1}}, 6)}, nil, api.ErrNone},
		{api.GovernorLoop{Common: []int{1, 2}, Machines: [][]int{{0, 1}, {0, -1}, {0, 1}, {0, -1}, {0, 0}, {0, -1}}}, []int{1, 3}, api.OK},
	} {
		if set, e := governor.UnstableSet(c.loop); !slices.Equal(set, c.want) || e != c.e {
			t.Error(c, set, e)
		}
	}
}

// P6.6 and P6.13: the sum of a set that is returned is not stable, that of no smaller set is; otherwise every sum is stable.
func TestUnstableSetAgainstModel(t *testing.T) {
	r := random(25)
	var sizes [7]int
	none := 0
	for range 20000 {
		l := randomLoop(r)
		if r.IntN(2) == 0 {
			l = slowLoop(r)
		}
		set, e := governor.UnstableSet(l)
		var want []int
		found := false
		for _, other := range allSets(len(l.Machines)) {
			p, _ := governor.SumFor(l, other)
			is, _ := governor.IsStable(p)
			if is != modelStable(p) {
				t.Fatal(p, is)
			}
			if !is && !found {
				want, found = other, true
			}
		}
		if found && (e != api.OK || !slices.Equal(set, want)) || !found && (e != api.ErrNone || len(set) > 0) {
			t.Fatal(l, set, e, want)
		}
		if found {
			sizes[len(set)]++
		} else {
			none++
		}
	}
	if slices.Min(sizes[:]) < 20 || none < 500 {
		t.Error(sizes, none)
	}
}
