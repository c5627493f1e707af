package surge_test

import (
	"math"
	"slices"
	"testing"

	"guidevane/api"
	"guidevane/surge"
)

// goodPlan is the plan of the example of orders.
func goodPlan() api.SurgePlan {
	return api.SurgePlan{Load: 100, Changes: []int{-80, 30, -50}, Wait: 2, Ticks: 5}
}

// dropPlan is the plan of the example of witnesses.
func dropPlan() api.SurgePlan {
	return api.SurgePlan{Load: 100, Changes: []int{-100}, Wait: 1, Ticks: 3}
}

// refusedPlan has no permitted order.
func refusedPlan() api.SurgePlan {
	return api.SurgePlan{Load: 100, Changes: []int{-101}, Wait: 1, Ticks: 3}
}

func planOf(load, wait, ticks int, changes ...int) api.SurgePlan {
	return api.SurgePlan{Load: load, Changes: changes, Wait: wait, Ticks: ticks}
}

type badPlan struct {
	plan  api.SurgePlan
	index int
	want  api.Errno
}

// badPlans returns plans for each error of CheckPlan, and for each order of two errors.
func badPlans() []badPlan {
	var l []badPlan
	add := func(index int, want api.Errno, change func(p *api.SurgePlan)) {
		l = append(l, badPlan{edited(goodPlan(), change), index, want})
	}
	for _, n := range outside(0, 1000) {
		add(0, api.ErrRange, func(p *api.SurgePlan) { p.Load = n })
		add(0, api.ErrRange, func(p *api.SurgePlan) { p.Load, p.Changes = n, make([]int, 5) })
		add(0, api.ErrRange, func(p *api.SurgePlan) { p.Load, p.Changes = n, []int{1, 0} })
	}
	add(0, api.ErrLarge, func(p *api.SurgePlan) { p.Changes = []int{1, 1, 1, 1, 1} })
	add(0, api.ErrLarge, func(p *api.SurgePlan) { p.Changes = []int{1, 0, 1, 1, 1001} })
	add(0, api.ErrLarge, func(p *api.SurgePlan) { p.Changes, p.Wait, p.Ticks = make([]int, 3000), 0, 0 })
	for _, n := range outside(-1000, 1000) {
		for i := range 3 {
			add(i, api.ErrRange, func(p *api.SurgePlan) { p.Changes[i] = n })
			add(i, api.ErrRange, func(p *api.SurgePlan) { p.Changes[i], p.Wait, p.Ticks = n, 0, 0 })
			add(i, api.ErrZero, func(p *api.SurgePlan) { p.Changes = append(slices.Repeat([]int{7}, i), 0, n) })
		}
		add(1, api.ErrRange, func(p *api.SurgePlan) { p.Changes = []int{1, n, 0} })
	}
	for i := range 3 {
		add(i, api.ErrZero, func(p *api.SurgePlan) { p.Changes[i] = 0 })
		add(i, api.ErrZero, func(p *api.SurgePlan) { p.Changes[i], p.Wait, p.Ticks = 0, 21, 201 })
	}
	add(1, api.ErrZero, func(p *api.SurgePlan) { p.Changes = []int{1, 0, 0, 1001} })
	for _, n := range outside(1, 20) {
		add(0, api.ErrRange, func(p *api.SurgePlan) { p.Wait = n })
		add(0, api.ErrRange, func(p *api.SurgePlan) { p.Wait, p.Changes = n, []int{-1000, -1000} })
	}
	for _, n := range outside(1, 200) {
		add(0, api.ErrRange, func(p *api.SurgePlan) { p.Ticks = n })
		add(0, api.ErrRange, func(p *api.SurgePlan) { p.Ticks, p.Changes = n, nil })
	}
	return append(l, badPlan{want: api.ErrRange})
}

// P4.4.
func TestCheckPlan(t *testing.T) {
	for _, c := range badPlans() {
		if i, e := surge.CheckPlan(goodRules(), c.plan); i != c.index || e != c.want {
			t.Error(c, i, e)
		}
	}
	for _, p := range []api.SurgePlan{goodPlan(), dropPlan(), refusedPlan(), planOf(0, 1, 1), planOf(1000, 20, 200, 1000, -1000, 1, -1), planOf(0, 20, 1, -1000)} {
		if i, e := surge.CheckPlan(goodRules(), p); i != 0 || e != api.OK {
			t.Error(p, i, e)
		}
	}
}

// P4.4 to P4.6: the error of a plan comes before those of all later arguments, and all else is zero.
func TestBadPlans(t *testing.T) {
	r := goodRules()
	box := boxOf(1, 0, math.MaxInt, math.MinInt)
	cover := api.SurgeCover{Starts: box, Limits: api.Range{Lo: 1, Hi: math.MinInt}}
	for _, c := range badPlans() {
		p := c.plan
		for i, got := range [][]any{
			call(surge.OrdersOf(r, p)), call(surge.LoadsOf(r, p, []int{-1})), call(surge.LoadsOf(r, p, []int{0, 1, 2})), call(surge.LoadsOf(r, p, nil)),
			call(surge.WorstOf(r, p, nil)), call(surge.WorstOf(r, p, []api.SurgeState{{}})), call(surge.CheckWitness(r, p, api.SurgeWitness{Order: []int{-1}, Friction: -1})), call(surge.CheckWitness(r, p, api.SurgeWitness{})),
			call(surge.BoundOf(r, p, nil)), call(surge.BoundOf(r, p, []api.SurgeBox{{}})), call(surge.ShortestWait(r, p, cover)), call(surge.ShortestWait(r, p, api.SurgeCover{Parts: 1})),
		} {
			if !failed(got, c.want) {
				t.Error(c, i, got)
			}
		}
	}
}

func sameOrders(a, b [][]int) bool {
	return slices.EqualFunc(a, b, func(a, b []int) bool { return slices.Equal(a, b) })
}

// P4.4, edge cases: without changes there is one order, also a change after the last tick must be permitted, and two equal changes make two orders.
func TestOrdersOf(t *testing.T) {
	for _, c := range []struct {
		plan   api.SurgePlan
		orders [][]int
		want   api.Errno
	}{
		{goodPlan(), [][]int{{0, 1, 2}, {1, 0, 2}, {1, 2, 0}, {2, 1, 0}}, api.OK},
		{planOf(100, 2, 5), [][]int{{}}, api.OK},
		{planOf(0, 1, 1), [][]int{{}}, api.OK},
		{planOf(100, 1, 3, -100), [][]int{{0}}, api.OK}, {planOf(100, 1, 3, -101), nil, api.ErrNone}, {planOf(900, 1, 3, 100), [][]int{{0}}, api.OK}, {planOf(900, 1, 3, 101), nil, api.ErrNone},
		{planOf(0, 1, 9, 1000, -1000), [][]int{{0, 1}}, api.OK}, {planOf(1000, 1, 9, 1000, -1000), [][]int{{1, 0}}, api.OK}, {planOf(500, 1, 9, 1000, -1000), nil, api.ErrNone},
		{planOf(10, 1, 9, 5, 5), [][]int{{0, 1}, {1, 0}}, api.OK}, {planOf(10, 1, 9, -5, -5), [][]int{{0, 1}, {1, 0}}, api.OK}, {planOf(10, 1, 9, -5, -5, -5), nil, api.ErrNone},
		{planOf(10, 20, 1, -5, -6), nil, api.ErrNone}, {planOf(10, 20, 1, -5, -6, 1), [][]int{{0, 2, 1}, {1, 2, 0}, {2, 0, 1}, {2, 1, 0}}, api.OK}, // only the first change is made, but the later ones count
		{planOf(500, 1, 1, 1, 2, 3, 4), modelOrders(planOf(500, 1, 1, 1, 2, 3, 4)), api.OK},
	} {
		if l, e := surge.OrdersOf(goodRules(), c.plan); !sameOrders(l, c.orders) || e != c.want {
			t.Error(c, l, e)
		}
		if l := modelOrders(c.plan); !sameOrders(l, c.orders) {
			t.Error(c, l)
		}
	}
	if l, _ := surge.OrdersOf(goodRules(), planOf(500, 1, 1, 1, 2, 3, 4)); len(l) != 24 {
		t.Error(l)
	}
}

// P4.4, edge cases: without changes the load stays, with Wait 20 and few ticks only the first changes are made, and two equal changes have the same loads in both orders.
func TestLoadsOf(t *testing.T) {
	for _, c := range []struct {
		plan  api.SurgePlan
		order []int
		loads []int
	}{
		{goodPlan(), []int{0, 1, 2}, []int{20, 20, 50, 50, 0}}, {goodPlan(), []int{1, 0, 2}, []int{130, 130, 50, 50, 0}}, {goodPlan(), []int{1, 2, 0}, []int{130, 130, 80, 80, 0}}, {goodPlan(), []int{2, 1, 0}, []int{50, 50, 80, 80, 0}},
		{planOf(100, 1, 3), nil, []int{100, 100, 100}}, {planOf(0, 20, 1), []int{}, []int{0}},
		{planOf(100, 1, 3, -100), []int{0}, []int{0, 0, 0}}, {planOf(100, 20, 1, 7), []int{0}, []int{107}},
		{planOf(100, 20, 21, 1, 2, 4), []int{2, 1, 0}, append(slices.Repeat([]int{104}, 20), 106)}, {planOf(100, 20, 20, 1, 2, 4), []int{2, 1, 0}, slices.Repeat([]int{104}, 20)}, {planOf(100, 20, 19, 1, 2, 4), []int{1, 2, 0}, slices.Repeat([]int{102}, 19)},
		{planOf(100, 1, 2, 1, 2, 4, 8), []int{3, 0, 2, 1}, []int{108, 109}}, {planOf(100, 1, 6, 1, 2, 4, 8), []int{3, 0, 2, 1}, []int{108, 109, 113, 115, 115, 115}}, {planOf(100, 3, 8, 1, 2), []int{1, 0}, []int{102, 102, 102, 103, 103, 103, 103, 103}},
		{planOf(10, 2, 4, 5, 5), []int{0, 1}, []int{15, 15, 20, 20}}, {planOf(10, 2, 4, 5, 5), []int{1, 0}, []int{15, 15, 20, 20}},
		{planOf(0, 1, 3, 1000, -1000), []int{0, 1}, []int{1000, 0, 0}},
	} {
		if l, e := surge.LoadsOf(goodRules(), c.plan, c.order); !slices.Equal(l, c.loads) || e != api.OK {
			t.Error(c, l, e)
		}
		if l := modelLoads(c.plan, c.order); !slices.Equal(l, c.loads) {
			t.Error(c, l)
		}
	}
}

type badOrder struct {
	order []int
	want  api.Errno
}

// badOrders returns orders for each error of an order of the plan goodPlan, and for each order of two errors.
func badOrders() []badOrder {
	l := []badOrder{
		{nil, api.ErrShape}, {[]int{}, api.ErrShape}, {[]int{0, 1}, api.ErrShape}, {[]int{0, 1, 2, 0}, api.ErrShape}, {[]int{-1, 7}, api.ErrShape}, {[]int{0, 0}, api.ErrShape}, {make([]int, 3000), api.ErrShape},
		{[]int{0, 0, 3}, api.ErrDouble}, {[]int{3, 0, 0}, api.ErrMissing}, {[]int{1, 1, 2}, api.ErrDouble}, {[]int{1, 2, 1}, api.ErrDouble}, {[]int{2, 1, 1}, api.ErrDouble}, {[]int{0, 0, 0}, api.ErrDouble}, {[]int{3, 3, 0}, api.ErrMissing},
		{[]int{0, 2, 2}, api.ErrDouble}, {[]int{0, 2, 3}, api.ErrMissing}, {[]int{2, 0, 0}, api.ErrDouble}, // before these orders are refused
		{[]int{0, 2, 1}, api.ErrRefused}, {[]int{2, 0, 1}, api.ErrRefused},
	}
	for _, n := range outside(0, 2) {
		l = append(l, badOrder{[]int{n, 1, 2}, api.ErrMissing}, badOrder{[]int{0, n, 2}, api.ErrMissing}, badOrder{[]int{0, 1, n}, api.ErrMissing}, badOrder{[]int{n, n, n}, api.ErrMissing})
	}
	return l
}

// P4.4 and P4.5.
func TestBadOrders(t *testing.T) {
	for _, c := range badOrders() {
		if got := call(surge.LoadsOf(goodRules(), goodPlan(), c.order)); !failed(got, c.want) {
			t.Error(c, got)
		}
		for _, s := range append(badStates(), api.SurgeState{}) {
			for _, friction := range []int{0, 3} {
				if e := surge.CheckWitness(goodRules(), goodPlan(), api.SurgeWitness{Order: c.order, Start: s, Friction: friction}); e != c.want {
					t.Error(c, s, friction, e)
				}
			}
		}
	}
	for _, c := range []struct {
		plan  api.SurgePlan
		order []int
		want  api.Errno
	}{
		{planOf(100, 1, 1), []int{0}, api.ErrShape}, {planOf(100, 20, 1, -50, -51), []int{0, 1}, api.ErrRefused}, {planOf(100, 20, 1, 800, 101), []int{0, 1}, api.ErrRefused}, {planOf(100, 20, 1, 800, 101, -1), []int{0, 1, 2}, api.ErrRefused}, {refusedPlan(), []int{0}, api.ErrRefused},
	} {
		if got := call(surge.LoadsOf(goodRules(), c.plan, c.order)); !failed(got, c.want) {
			t.Error(c, got)
		}
	}
}

// P4.4.
func TestPlansAgainstModel(t *testing.T) {
	r := random(9)
	counts := map[int]bool{}
	for range 5000 {
		x, p := randomRules(r), randomPlan(r, api.MaxSurgeTicks)
		want := modelOrders(p)
		orders, e := surge.OrdersOf(x, p)
		if !sameOrders(orders, want) || (e == api.OK) != (len(want) > 0) || e != api.OK && e != api.ErrNone {
			t.Fatal(x, p, orders, e, want)
		}
		counts[len(orders)] = true
		for _, order := range orders {
			if l, e := surge.LoadsOf(x, p, order); !slices.Equal(l, modelLoads(p, order)) || e != api.OK {
				t.Fatal(x, p, order, l, e)
			}
		}
		order := r.Perm(len(p.Changes))
		if _, e := surge.LoadsOf(x, p, order); (e == api.OK) != isOrder(p, order) || e != api.OK && e != api.ErrRefused {
			t.Fatal(x, p, order, e)
		}
	}
	if len(counts) < 12 {
		t.Error("too few numbers of orders", counts)
	}
}
