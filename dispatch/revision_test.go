package dispatch_test

import (
	"cmp"
	"math/rand/v2"
	"slices"
	"strconv"
	"testing"

	"guidevane/api"
	"guidevane/dispatch"
)

// revisions returns revisions: when each is due, and how many days it takes, by turns.
func revisions(numbers ...int) []api.DispatchRevision {
	var l []api.DispatchRevision
	for i := 0; i < len(numbers); i += 2 {
		l = append(l, api.DispatchRevision{Name: "r" + strconv.Itoa(i/2), Due: numbers[i], Days: numbers[i+1]})
	}
	return l
}

// randomRevisions returns so many revisions, which are often due at the same time.
func randomRevisions(r *rand.Rand, n int) []api.DispatchRevision {
	due, days := chosen(r, 3, 10, 40, 100000), chosen(r, 1, 2, 10, 100000)
	var numbers []int
	for range n {
		numbers = append(numbers, r.IntN(due+1), between(r, 1, days))
	}
	return revisions(numbers...)
}

type badRevision struct {
	revisions []api.DispatchRevision
	index     int
	want      api.Errno
}

// badRevisions returns revisions for each error of CheckRevisions, and for each order of two errors.
func badRevisions() []badRevision {
	bad := api.DispatchRevision{Name: "1", Due: -1}
	l := []badRevision{
		{nil, 0, api.ErrShape}, {[]api.DispatchRevision{}, 0, api.ErrShape},
		{randomRevisions(random(1), 9), 0, api.ErrLarge}, {randomRevisions(random(1), 1000), 0, api.ErrLarge}, {slices.Repeat([]api.DispatchRevision{bad}, 9), 0, api.ErrLarge},
	}
	for at := range 8 {
		last := []api.DispatchRevision{{Name: "last", Due: 3, Days: 3}, {Name: "1", Due: 3, Days: 3}, {Name: "r0", Due: 3, Days: 3}, {Name: "last", Due: -1, Days: 3}}
		if at == 7 {
			last = last[:1]
		}
		add := func(want api.Errno, change func(r *api.DispatchRevision)) {
			for _, r := range last {
				all := append(revisions(9, 1, 0, 100000, 100000, 1, 7, 7, 7, 7, 7, 7, 0, 1), r)
				change(&all[at])
				l = append(l, badRevision{all, at, want})
			}
		}
		for _, name := range badNames() {
			add(api.ErrName, func(r *api.DispatchRevision) { r.Name = name })
			add(api.ErrName, func(r *api.DispatchRevision) { *r = api.DispatchRevision{Name: name, Due: -1} })
		}
		for earlier := range at {
			add(api.ErrExists, func(r *api.DispatchRevision) { r.Name = "r" + strconv.Itoa(earlier) })
			add(api.ErrExists, func(r *api.DispatchRevision) { *r = api.DispatchRevision{Name: "r" + strconv.Itoa(earlier), Due: -1} })
		}
		for _, n := range outside(0, 100000) {
			add(api.ErrRange, func(r *api.DispatchRevision) { r.Due = n })
		}
		for _, n := range outside(1, 100000) {
			add(api.ErrRange, func(r *api.DispatchRevision) { r.Days = n })
		}
	}
	return l
}

// P8.6.
func TestCheckRevisions(t *testing.T) {
	for _, c := range badRevisions() {
		if i, e := dispatch.CheckRevisions(c.revisions); i != c.index || e != c.want {
			t.Errorf("%+v: %v %v, want %v %v", c.revisions, i, e, c.index, c.want)
		}
		for _, order := range [][]int{nil, {-1}, {0, 1, 2, 3, 4, 5, 6, 7}, {0, 0, 0, 0, 0, 0, 0, 0}} {
			for i, got := range ofRevisions(c.revisions, order)[:3] {
				if !failed(got, c.want) {
					t.Errorf("%+v %v %v: %v, want %v", c.revisions, order, i, got, c.want)
				}
			}
		}
	}
	good := [][]api.DispatchRevision{exampleRevisions(), revisions(0, 1), revisions(100000, 100000), revisions(0, 100000, 100000, 1, 0, 1, 0, 1, 0, 1, 0, 1, 0, 1, 0, 1), {{Name: "a", Days: 1}, {Name: "A", Days: 1}, {Name: "aa", Days: 1}}}
	for _, name := range goodNames() {
		good = append(good, []api.DispatchRevision{{Name: "other", Days: 1}, {Name: name, Days: 1}})
	}
	for _, l := range good {
		if i, e := dispatch.CheckRevisions(l); i != 0 || e != api.OK {
			t.Errorf("%+v: %v %v", l, i, e)
		}
	}
}

// P8.6 and example 7; edge case: a lateness may be below 0.
func TestLatenessOf(t *testing.T) {
	for _, c := range []struct {
		revisions []api.DispatchRevision
		order     []int
		want      int
	}{
		{exampleRevisions(), []int{1, 0, 2}, 1}, {exampleRevisions(), []int{0, 1, 2}, 1}, {exampleRevisions(), []int{2, 0, 1}, 6}, {exampleRevisions(), []int{2, 1, 0}, 5}, {exampleRevisions(), []int{0, 2, 1}, 6}, {exampleRevisions(), []int{1, 2, 0}, 5},
		{revisions(100, 1), []int{0}, -99}, {revisions(0, 7), []int{0}, 7}, {revisions(7, 7), []int{0}, 0}, {revisions(100000, 1), []int{0}, -99999}, {revisions(0, 100000), []int{0}, 100000},
		{revisions(100, 1, 50, 2), []int{0, 1}, -47}, {revisions(100, 1, 50, 2), []int{1, 0}, -48},
		{revisions(0, 100000, 0, 100000, 0, 100000, 0, 100000, 0, 100000, 0, 100000, 0, 100000, 0, 100000), []int{7, 6, 5, 4, 3, 2, 1, 0}, 800000},
	} {
		if n, e := dispatch.LatenessOf(c.revisions, c.order); n != c.want || e != api.OK {
			t.Error(c, n, e)
		}
	}
}

// P8.6: errors of orders, in their order.
func TestLatenessOfErrors(t *testing.T) {
	expect := func(want api.Errno, order ...int) {
		t.Helper()
		if got := call(dispatch.LatenessOf(exampleRevisions(), order)); !failed(got, want) {
			t.Error(order, got, want)
		}
	}
	expect(api.ErrShape)
	expect(api.ErrShape, 0)
	expect(api.ErrShape, 0, 1)
	expect(api.ErrShape, 0, 1, 2, 0)
	expect(api.ErrShape, -1, 3, 3, 3)
	expect(api.ErrShape, 0, 0)
	expect(api.ErrShape, make([]int, 1000)...)
	for _, n := range outside(0, 2) {
		expect(api.ErrMissing, n, 0, 1)
		expect(api.ErrMissing, 0, n, 1)
		expect(api.ErrMissing, 0, 1, n)
		expect(api.ErrMissing, n, 0, 0)
		expect(api.ErrMissing, n, n, n)
		expect(api.ErrMissing, 0, n, n)
		expect(api.ErrDouble, 0, 0, n)
		expect(api.ErrDouble, 2, 2, n)
	}
	expect(api.ErrDouble, 0, 1, 1)
	expect(api.ErrDouble, 0, 1, 0)
	expect(api.ErrDouble, 1, 1, 0)
	expect(api.ErrDouble, 2, 2, 2)
}

// P8.6 and example 7.
func TestBestOrderAndGroup(t *testing.T) {
	for _, c := range []struct {
		revisions    []api.DispatchRevision
		order, group []int
		lateness     int
	}{
		{exampleRevisions(), []int{0, 1, 2}, []int{0, 1, 2}, 1},
		{revisions(5, 3), []int{0}, []int{0}, -2},
		{revisions(100000, 1, 100000, 1), []int{0, 1}, []int{0, 1}, -99998},
		{revisions(5, 3, 4, 2, 0, 40), []int{2, 1, 0}, []int{2}, 40},
		{revisions(5, 3, 4, 2, 3, 40), []int{1, 2, 0}, []int{0, 1, 2}, 40},
		{revisions(9, 5, 0, 5, 9, 5), []int{1, 0, 2}, []int{0, 1, 2}, 6},
		{revisions(9, 5, 0, 7, 20, 5), []int{1, 0, 2}, []int{1}, 7},
		{revisions(9, 5, 0, 8, 8, 1, 7, 1), []int{1, 0, 2, 3}, []int{1}, 8},
		{revisions(4, 4, 2, 2, 0, 1), []int{1, 2, 0}, []int{0, 1, 2}, 3},
		{revisions(2, 2, 0, 1, 1, 1, 2, 1), []int{0, 1, 2, 3}, []int{0, 1, 2, 3}, 3},
		{revisions(3, 3, 3, 3, 0, 3, 9, 1), []int{0, 2, 1, 3}, []int{0, 1, 2}, 6},
		{revisions(9, 1, 3, 3, 3, 4, 50, 1), []int{1, 2, 0, 3}, []int{1, 2}, 4},
		{revisions(3, 1, 3, 1, 3, 1), []int{0, 1, 2}, []int{0, 1, 2}, 0},
		{revisions(0, 5, 5, 5, 10, 5), []int{0, 1, 2}, []int{0}, 5},
		{revisions(10, 5, 5, 5, 0, 5), []int{2, 1, 0}, []int{2}, 5},
		{revisions(0, 100000, 0, 100000, 0, 100000, 0, 100000, 0, 100000, 0, 100000, 0, 100000, 0, 100000), []int{0, 1, 2, 3, 4, 5, 6, 7}, []int{0, 1, 2, 3, 4, 5, 6, 7}, 800000},
	} {
		if order, n, e := dispatch.BestOrder(c.revisions); !slices.Equal(order, c.order) || n != c.lateness || e != api.OK {
			t.Error(c, order, n, e)
		}
		if group, e := dispatch.GroupOf(c.revisions); !slices.Equal(group, c.group) || e != api.OK {
			t.Error(c, group, e)
		}
	}
}

// P8.6: random revisions, with all orders and groups tried.
func TestRevisionsAgainstModel(t *testing.T) {
	r := random(16)
	for range 2500 {
		l := randomRevisions(r, between(r, 1, chosen(r, 2, 5, 6)))
		all := orders(len(l))
		tried := chosen(r, all...)
		if n, e := dispatch.LatenessOf(l, tried); n != modelLateness(l, tried) || e != api.OK {
			t.Fatal(l, tried, n, e)
		}
		best, late := modelBestOrder(l)
		if order, n, e := dispatch.BestOrder(l); !slices.Equal(order, best) || n != late || e != api.OK {
			t.Fatal(l, order, n, e, "want", best, late)
		}
		if group, e := dispatch.GroupOf(l); !slices.Equal(group, modelGroup(l)) || e != api.OK {
			t.Fatal(l, group, e)
		}
	}
}

// P8.11: the order of ascending Due has the best lateness, no order is less late than the bound of any group, and GroupOf has the bound of the best order.
func TestInTurn(t *testing.T) {
	r := random(17)
	for range 1000 {
		l := randomRevisions(r, between(r, 1, 8))
		order := r.Perm(len(l))
		late, e := dispatch.LatenessOf(l, order)
		best, least, f := dispatch.BestOrder(l)
		group, g := dispatch.GroupOf(l)
		if e != api.OK || f != api.OK || g != api.OK || late < least || late == least && slices.Compare(order, best) < 0 {
			t.Fatal(l, order, late, best, least, e, f, g)
		}
		if n, e := dispatch.LatenessOf(l, best); n != least || e != api.OK {
			t.Fatal(l, best, n, least, e)
		}
		slices.SortFunc(order, func(a, b int) int { return cmp.Compare(l[a].Due, l[b].Due) })
		if n, e := dispatch.LatenessOf(l, order); n != least || e != api.OK {
			t.Fatal(l, order, n, least, e)
		}
		for _, other := range groups(len(l)) {
			if modelGroupBound(l, other) > least {
				t.Fatal(l, other, least)
			}
		}
		if modelGroupBound(l, group) != least || !slices.Equal(group, modelGroupOf(l, least)) {
			t.Fatal(l, group, least)
		}
	}
}

// P8.6: as many machines as there may be, with all orders tried.
func TestBestOrderOfEight(t *testing.T) {
	r := random(18)
	for range 6 {
		l := randomRevisions(r, 8)
		best, late := modelBestOrder(l)
		if order, n, e := dispatch.BestOrder(l); !slices.Equal(order, best) || n != late || e != api.OK {
			t.Fatal(l, order, n, e, "want", best, late)
		}
	}
}
