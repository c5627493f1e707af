package governor_test

import (
	"math"
	"slices"
	"testing"

	"guidevane/api"
	"guidevane/governor"
)

// goodGate is the gate of the examples.
func goodGate() api.GovernorGate {
	return api.GovernorGate{At: 40, Lo: 0, Hi: 60, Rate: 3}
}

// goodRules are the rules of the examples.
func goodRules() api.GovernorRules {
	return api.GovernorRules{Band: 2, Num: 1, Den: 2, Set: 50}
}

// edited returns a good value with a change.
func edited[T any](good T, change func(x *T)) T {
	change(&good)
	return good
}

// outside returns numbers that do not lie in a range.
func outside(lo, hi int) []int {
	return []int{lo - 1, hi + 1, lo - 1000, hi + 1000, math.MinInt, math.MinInt + 1, math.MaxInt}
}

type badGate struct {
	gate api.GovernorGate
	want api.Errno
}

// badGates returns gates for each error of CheckGate, and for each order of two errors.
func badGates() []badGate {
	var l []badGate
	add := func(want api.Errno, change func(g *api.GovernorGate)) {
		l = append(l, badGate{edited(goodGate(), change), want})
	}
	for _, n := range outside(0, 10000) {
		add(api.ErrRange, func(g *api.GovernorGate) { g.Lo = n })
		add(api.ErrRange, func(g *api.GovernorGate) { g.Hi = n })
		add(api.ErrRange, func(g *api.GovernorGate) { g.At = n })
		add(api.ErrRange, func(g *api.GovernorGate) { g.At, g.Lo = n, 61 })
		add(api.ErrRange, func(g *api.GovernorGate) { g.Lo, g.Hi, g.At = n, n, n })
	}
	for _, n := range outside(1, 10000) {
		add(api.ErrRange, func(g *api.GovernorGate) { g.Rate = n })
		add(api.ErrRange, func(g *api.GovernorGate) { g.Rate, g.Lo = n, 61 })
		add(api.ErrRange, func(g *api.GovernorGate) { g.Rate, g.At = n, 61 })
	}
	add(api.ErrOrder, func(g *api.GovernorGate) { g.Lo = 61 })
	add(api.ErrOrder, func(g *api.GovernorGate) { g.Lo, g.At = 61, 61 })
	add(api.ErrOrder, func(g *api.GovernorGate) { g.Lo, g.Hi, g.At = 10000, 0, 5000 })
	add(api.ErrBreak, func(g *api.GovernorGate) { g.At = 61 })
	add(api.ErrBreak, func(g *api.GovernorGate) { g.Lo = 41 })
	add(api.ErrBreak, func(g *api.GovernorGate) { g.Lo, g.Hi = 39, 39 })
	add(api.ErrBreak, func(g *api.GovernorGate) { g.At = 10000 })
	return append(l, badGate{want: api.ErrRange})
}

// P6.1.
func TestCheckGate(t *testing.T) {
	for _, c := range badGates() {
		if e := governor.CheckGate(c.gate); e != c.want {
			t.Error(c, e)
		}
	}
	for _, g := range []api.GovernorGate{goodGate(), {At: 0, Lo: 0, Hi: 0, Rate: 1}, {At: 10000, Lo: 10000, Hi: 10000, Rate: 10000}, {At: 0, Lo: 0, Hi: 10000, Rate: 10000}, {At: 10000, Lo: 0, Hi: 10000, Rate: 1}, {At: 7, Lo: 7, Hi: 8, Rate: 1}, {At: 8, Lo: 7, Hi: 8, Rate: 9}} {
		if e := governor.CheckGate(g); e != api.OK {
			t.Error(g, e)
		}
	}
}

type badRule struct {
	rules api.GovernorRules
	want  api.Errno
}

// badRules returns rules that are not in their ranges.
func badRules() []badRule {
	l := []badRule{{want: api.ErrRange}}
	add := func(numbers []int, change func(r *api.GovernorRules, n int)) {
		for _, n := range numbers {
			l = append(l, badRule{edited(goodRules(), func(r *api.GovernorRules) { change(r, n) }), api.ErrRange})
		}
	}
	add(outside(0, 100000), func(r *api.GovernorRules, n int) { r.Band = n })
	add(outside(0, 1000), func(r *api.GovernorRules, n int) { r.Num = n })
	add(outside(1, 1000), func(r *api.GovernorRules, n int) { r.Den = n })
	add(outside(0, 10000), func(r *api.GovernorRules, n int) { r.Set = n })
	return l
}

// P6.1.
func TestCheckRules(t *testing.T) {
	for _, c := range badRules() {
		if e := governor.CheckRules(c.rules); e != c.want {
			t.Error(c, e)
		}
	}
	for _, r := range []api.GovernorRules{goodRules(), {Den: 1}, {Band: 100000, Num: 1000, Den: 1000, Set: 10000}, {Band: 0, Num: 1000, Den: 1, Set: 10000}} {
		if e := governor.CheckRules(r); e != api.OK {
			t.Error(r, e)
		}
	}
}

// P6.1, example 1, and the edge case that a deviation of exactly the band moves nothing.
func TestWantedFor(t *testing.T) {
	steep := api.GovernorRules{Band: 0, Num: 1000, Den: 1, Set: 10000}
	odd := api.GovernorRules{Band: 3, Num: 5, Den: 7, Set: 10}
	for _, c := range []struct {
		rules           api.GovernorRules
		deviation, want int
	}{
		{goodRules(), 7, 48}, {goodRules(), -7, 52}, {goodRules(), 1, 50}, {goodRules(), 0, 50}, {goodRules(), -1, 50}, {goodRules(), 2, 50}, {goodRules(), -2, 50}, {goodRules(), 3, 50}, {goodRules(), -3, 50}, {goodRules(), 4, 49}, {goodRules(), -4, 51}, {goodRules(), 5, 49}, {goodRules(), -5, 51}, {goodRules(), 100000, -49949}, {goodRules(), -100000, 50049},
		{steep, 100000, 10000 - 100000000}, {steep, -100000, 10000 + 100000000}, {steep, 1, 9000}, {steep, 0, 10000}, {steep, -1, 11000},
		{odd, 4, 10}, {odd, 5, 9}, {odd, 6, 8}, {odd, -4, 10}, {odd, -5, 11}, {odd, -6, 12}, {odd, 9, 6}, {odd, -9, 14}, {odd, 10, 5}, {odd, -10, 15}, {odd, 3, 10}, {odd, -3, 10},
		{api.GovernorRules{Band: 5, Num: 0, Den: 1, Set: 7}, 100000, 7}, {api.GovernorRules{Band: 100000, Num: 1000, Den: 1, Set: 7}, 100000, 7}, {api.GovernorRules{Band: 100000, Num: 1000, Den: 1, Set: 7}, -100000, 7}, {api.GovernorRules{Band: 99999, Num: 1000, Den: 1, Set: 7}, 100000, -993}, {api.GovernorRules{Band: 99999, Num: 999, Den: 1000, Set: 7}, -100000, 7},
	} {
		if n, e := governor.WantedFor(c.rules, c.deviation); n != c.want || e != api.OK {
			t.Error(c, n, e)
		}
	}
	r := random(1)
	for range 20000 {
		x, d := randomRules(r), randomSpeed(r)
		if n, e := governor.WantedFor(x, d); n != modelWanted(x, d) || e != api.OK {
			t.Fatal(x, d, n, e)
		}
		for _, d := range []int{x.Band, -x.Band, 0} {
			if n, e := governor.WantedFor(x, d); n != x.Set || e != api.OK {
				t.Fatal(x, d, n, e)
			}
		}
	}
}

// P6.1 and example 1.
func TestGateStep(t *testing.T) {
	for _, c := range []struct{ at, lo, hi, rate, wanted, want int }{
		{40, 0, 60, 3, 48, 43}, {43, 0, 60, 3, 48, 46}, {46, 0, 60, 3, 48, 48}, {48, 0, 60, 3, 48, 48}, {40, 0, 60, 3, -5, 37}, {40, 0, 60, 3, 43, 43}, {40, 0, 60, 3, 42, 42}, {40, 0, 60, 3, 37, 37}, {40, 0, 60, 3, 38, 38}, {40, 0, 60, 3, 40, 40},
		{58, 0, 60, 3, 100, 60}, {60, 0, 60, 3, 100, 60}, {60, 0, 60, 3, 100000, 60}, {12, 10, 60, 3, 0, 10}, {10, 10, 60, 3, 0, 10}, {10, 10, 60, 3, -100000, 10}, {10, 10, 60, 3, 9, 10}, {10, 10, 60, 3, 11, 11},
		{0, 0, 10000, 10000, 100000, 10000}, {10000, 0, 10000, 10000, -100000, 0}, {0, 0, 10000, 1, 10000, 1}, {10000, 0, 10000, 1, 0, 9999}, {5, 5, 5, 7, 100, 5}, {5, 5, 5, 7, 0, 5}, {0, 0, 0, 1, 1, 0},
	} {
		g := api.GovernorGate{At: c.at, Lo: c.lo, Hi: c.hi, Rate: c.rate}
		want := g
		want.At = c.want
		if x, e := governor.GateStep(g, c.wanted); x != want || e != api.OK {
			t.Error(c, x, e)
		}
	}
	r := random(2)
	for range 20000 {
		g, wanted := randomGate(r), randomSpeed(r)
		if x, e := governor.GateStep(g, wanted); x != modelStep(g, wanted) || e != api.OK {
			t.Fatal(g, wanted, x, e)
		}
	}
}

// P6.1 and example 1.
func TestGateRun(t *testing.T) {
	g, rules := goodGate(), goodRules()
	for _, c := range []struct{ deviations, want []int }{
		{[]int{7, 7, 7, 7}, []int{43, 46, 48, 48}}, {[]int{7, 7, 7, -7}, []int{43, 46, 48, 51}}, {[]int{100000, -100000, 0}, []int{37, 40, 43}}, {[]int{2}, []int{43}}, {[]int{}, []int{}}, {nil, nil},
	} {
		if l, e := governor.GateRun(g, rules, c.deviations); !slices.Equal(l, c.want) || e != api.OK {
			t.Error(c, l, e)
		}
	}
	steep := api.GovernorRules{Band: 0, Num: 1000, Den: 1, Set: 10}
	if l, e := governor.GateRun(api.GovernorGate{At: 5, Lo: 2, Hi: 10000, Rate: 10000}, steep, []int{-100000, 100000, -1, 0}); !slices.Equal(l, []int{10000, 2, 1010, 10}) || e != api.OK {
		t.Error(l, e)
	}
	r := random(3)
	for range 2000 {
		g, rules := randomGate(r), randomRules(r)
		var deviations, want []int
		for range chosen(r, r.IntN(20), 199, 200) {
			deviations = append(deviations, randomSpeed(r))
		}
		now := g
		for _, d := range deviations {
			now = modelStep(now, modelWanted(rules, d))
			want = append(want, now.At)
		}
		if l, e := governor.GateRun(g, rules, deviations); !slices.Equal(l, want) || e != api.OK {
			t.Fatal(g, rules, deviations, l, e)
		}
	}
}

// P6.1 and example 1, and the edge case that a gate with Lo equal to Hi never moves.
func TestTicksTo(t *testing.T) {
	for _, c := range []struct{ at, lo, hi, rate, wanted, want int }{
		{40, 0, 60, 3, 48, 3}, {40, 0, 60, 3, 49, 3}, {40, 0, 60, 3, 50, 4}, {40, 0, 60, 3, 40, 0}, {40, 0, 60, 3, 41, 1}, {40, 0, 60, 3, 43, 1}, {40, 0, 60, 3, 44, 2}, {40, 0, 60, 3, 39, 1}, {40, 0, 60, 3, 37, 1}, {40, 0, 60, 3, 36, 2}, {40, 0, 60, 3, 1000, 7}, {40, 0, 60, 3, -100000, 14}, {40, 10, 60, 3, -1, 10},
		{0, 0, 10000, 1, 100000, 10000}, {10000, 0, 10000, 1, -1, 10000}, {0, 0, 10000, 10000, 10000, 1}, {7, 7, 7, 1, 100, 0}, {7, 7, 7, 1, -100, 0}, {60, 0, 60, 3, 61, 0}, {0, 0, 60, 3, -1, 0},
	} {
		g := api.GovernorGate{At: c.at, Lo: c.lo, Hi: c.hi, Rate: c.rate}
		if n, e := governor.TicksTo(g, c.wanted); n != c.want || e != api.OK {
			t.Error(c, n, e)
		}
	}
}

// P6.9: a gate never leaves its limits, never moves by more than its rate, and is where it goes after as many steps as TicksTo returns, and not before.
func TestGatesStayWithinLimits(t *testing.T) {
	r := random(4)
	moves, waits := 0, 0
	for range 3000 {
		g, wanted := randomGate(r), randomSpeed(r)
		ticks, e := governor.TicksTo(g, wanted)
		if e != api.OK {
			t.Fatal(g, wanted, e)
		}
		goal := min(max(wanted, g.Lo), g.Hi)
		for tick := range min(ticks, 200) + 2 {
			if (g.At == goal) != (tick >= ticks) {
				t.Fatal(g, wanted, ticks, tick)
			}
			next, e := governor.GateStep(g, wanted)
			if e != api.OK || next.At < g.Lo || next.At > g.Hi || size(next.At-g.At) > g.Rate || next != edited(g, func(x *api.GovernorGate) { x.At = next.At }) {
				t.Fatal(g, wanted, next, e)
			}
			if next != g {
				moves++
			}
			if g.Lo == g.Hi && next != g {
				t.Fatal(g, next)
			}
			g = next
		}
		if ticks == 0 {
			waits++
		}
	}
	if moves < 5000 || waits < 100 {
		t.Error(moves, waits)
	}
}

// P6.9: for runs.
func TestRunsStayWithinLimits(t *testing.T) {
	r := random(5)
	for range 1000 {
		g, rules := randomGate(r), randomRules(r)
		var deviations []int
		for range 30 {
			deviations = append(deviations, randomSpeed(r))
		}
		l, e := governor.GateRun(g, rules, deviations)
		if e != api.OK || len(l) != 30 {
			t.Fatal(l, e)
		}
		before := g.At
		for _, at := range l {
			if at < g.Lo || at > g.Hi || size(at-before) > g.Rate {
				t.Fatal(g, rules, deviations, l)
			}
			before = at
		}
	}
}
