package surge_test

import (
	"slices"
	"testing"

	"guidevane/api"
	"guidevane/surge"
)

// P4.2.
func TestStepped(t *testing.T) {
	r := goodRules()
	throttled := api.SurgeRules{Inertia: 20, Area: 7, Friction: api.Range{Lo: 0, Hi: 2}, Throttle: 3}
	wide := api.SurgeRules{Inertia: 1000, Area: 1, Friction: api.Range{Lo: 0, Hi: 100}, Throttle: 100}
	for _, c := range []struct {
		rules         api.SurgeRules
		level, flow   int
		load          int
		friction      int
		level1, flow1 int
	}{
		{r, 0, 100, 0, 2, 19, 98}, {r, 0, 100, 0, 0, 20, 100}, {r, 0, 100, 0, 1, 19, 99}, {r, 19, 98, 0, 2, 38, 95}, {r, 38, 95, 0, 2, 56, 90},
		{r, 9, 100, 0, 0, 29, 100}, {r, 10, 100, 0, 0, 29, 99}, {r, -1, 100, 0, 0, 19, 101}, {r, -10, 100, 0, 0, 10, 101}, {r, -11, 100, 0, 0, 9, 102}, // both are rounded down
		{r, 0, 100, 101, 0, -1, 100}, {r, 0, 100, 105, 0, -1, 100}, {r, 0, 100, 106, 0, -2, 100}, {r, 0, 100, 96, 0, 0, 100}, {r, 0, 100, 95, 0, 1, 100},
		{r, 0, 22, 22, 2, 0, 22}, {r, 0, -22, 0, 2, -5, -22}, {r, 0, -23, 0, 2, -5, -22}, // -968 / 1000 is 0, -1058 / 1000 is -1
		{r, 0, -100, 0, 2, -20, -98}, {r, 0, -100, 0, 0, -20, -100}, {r, 0, 0, 1000, 0, -200, 0},
		{throttled, 0, 0, 100, 0, -14, 2}, {throttled, 0, 100, 0, 0, 14, 99}, {throttled, 0, 100, 118, 0, -3, 100}, {throttled, 0, 100, 119, 0, -3, 101}, // -972 / 1000 is 0, -1083 / 1000 is -1
		{throttled, 1, 100, 119, 0, -2, 100}, {throttled, -18, 100, 119, 0, -21, 101}, {throttled, -20, 100, 119, 0, -23, 102}, {throttled, 0, 30, 11, 2, 2, 30}, {throttled, 17, 30, 11, 2, 19, 30}, {throttled, 18, 30, 11, 2, 20, 29},
		{throttled, 16, 35, 4, 1, 20, 35}, {throttled, 17, 35, 4, 1, 21, 34}, // each of both heads is rounded by itself
		{r, -100000, 0, 0, 0, -99800, 1000}, {r, 100000, 0, 0, 2, 99800, -1000}, {r, -30, 998, 998, 0, -30, 1000}, {r, -20, 998, 998, 0, -20, 1000}, {r, -10, 998, 998, 0, -10, 999}, {r, 30, -998, 0, 0, -170, -1000},
		{r, 20, -998, 0, 0, -180, -1000}, {r, 19, -998, 0, 0, -181, -999},
		{wide, 100000, 1000, 0, 100, 100700, 700}, {wide, -100000, -1000, 1000, 0, -101500, -500}, {wide, 100000, -1000, 1000, 0, 98300, -700}, {wide, 100000, -1000, 1000, 100, 98400, -600},
	} {
		s, want := api.SurgeState{Level: c.level, Flow: c.flow}, api.SurgeState{Level: c.level1, Flow: c.flow1}
		if after, e := surge.Stepped(c.rules, s, api.SurgeStep{Load: c.load, Friction: c.friction}); after != want || e != api.OK {
			t.Error(c, after, e)
		}
		if model := modelStep(c.rules, s, c.load, c.friction); model != want {
			t.Error(c, model)
		}
		if l, e := surge.RunOf(c.rules, s, api.SurgeRun{Loads: []int{c.load}, Friction: c.friction}); !slices.Equal(l, []api.SurgeState{want}) || e != api.OK {
			t.Error(c, l, e)
		}
	}
}

// P4.2, edge cases: in balance nothing moves, less than the inertia above it rounding alone holds the level, and below it rounding alone moves it; a flow is at most 1000.
func TestBalance(t *testing.T) {
	r := api.SurgeRules{Inertia: 10, Area: 1, Friction: api.Range{Lo: 0, Hi: 2}}
	for _, c := range []struct{ level, level1, flow1 int }{{-20, -20, 100}, {-11, -11, 100}, {-21, -20, 101}, {-10, -11, 99}} {
		s, want := api.SurgeState{Level: c.level, Flow: 100}, api.SurgeState{Level: c.level1, Flow: c.flow1}
		if after, e := surge.Stepped(r, s, api.SurgeStep{Load: 100, Friction: 2}); after != want || e != api.OK {
			t.Error(c, after, e)
		}
	}
	for _, c := range []struct{ level, flow int }{{-100000, 1000}, {100000, -1000}} {
		s := api.SurgeState{Level: c.level, Flow: c.flow}
		after, e := surge.Stepped(r, s, api.SurgeStep{Load: 0, Friction: 0})
		if want := (api.SurgeState{Level: c.level + c.flow, Flow: c.flow}); after != want || e != api.OK {
			t.Error(c, after, e)
		}
	}
}

// P4.2.
func TestBoxStep(t *testing.T) {
	r := goodRules()
	for _, c := range []struct {
		box  api.SurgeBox
		load int
		want api.SurgeBox
	}{
		{boxOf(0, 0, 100, 100), 0, boxOf(19, 20, 98, 100)},
		{boxOf(19, 20, 98, 100), 0, boxOf(38, 39, 95, 99)},
		{boxOf(0, 0, -100, -100), 0, boxOf(-20, -20, -100, -98)},
		{boxOf(0, 0, -100, 100), 0, boxOf(-20, 20, -100, 100)},
		{boxOf(0, 100, 0, 0), 50, boxOf(-10, 88, -10, 0)},
		{boxOf(-100000, 100000, -1000, 1000), 500, boxOf(-99900, 99700, -1000, 1000)},
	} {
		if b, e := surge.BoxStep(r, c.box, c.load); b != c.want || e != api.OK {
			t.Error(c, b, e)
		}
		if l, e := surge.BoxRun(r, c.box, []int{c.load}); !slices.Equal(l, []api.SurgeBox{c.want}) || e != api.OK {
			t.Error(c, l, e)
		}
		if b := modelBoxStep(r, c.box, c.load); b != c.want {
			t.Error(c, b)
		}
	}
}

// P4.2.
func TestStepsAgainstModel(t *testing.T) {
	r := random(3)
	beyond := 0
	for range 3000 {
		x, s, b := randomRules(r), randomState(r), randomBox(r, chosen(r, 1, 5, 300), chosen(r, 1, 5, 300))
		friction := chosen(r, x.Friction.Lo, x.Friction.Hi, between(r, x.Friction.Lo, x.Friction.Hi))
		loads := randomLoads(r, chosen(r, 0, 1, 2, 9, r.IntN(201), 200))
		states, boxes := modelRun(x, s, loads, friction), modelBoxRun(x, b, loads)
		if l, e := surge.RunOf(x, s, api.SurgeRun{Loads: loads, Friction: friction}); !slices.Equal(l, states) || e != api.OK {
			t.Fatal(x, s, friction, loads, l, e, states)
		}
		if l, e := surge.BoxRun(x, b, loads); !slices.Equal(l, boxes) || e != api.OK {
			t.Fatal(x, b, loads, l, e, boxes)
		}
		if len(loads) == 0 {
			continue
		}
		if after, e := surge.Stepped(x, s, api.SurgeStep{Load: loads[0], Friction: friction}); after != states[0] || e != api.OK {
			t.Fatal(x, s, friction, loads[0], after, e, states[0])
		}
		if after, e := surge.BoxStep(x, b, loads[0]); after != boxes[0] || e != api.OK {
			t.Fatal(x, b, loads[0], after, e, boxes[0])
		}
		if slices.ContainsFunc(states, func(s api.SurgeState) bool { return surge.CheckState(x, s) != api.OK }) {
			beyond++
		}
	}
	if beyond < 20 {
		t.Error("few levels of results were greater than MaxSurgeLevel in size", beyond)
	}
}

type badList struct {
	loads []int
	want  api.Errno
}

// badLoads returns loads for each error of loads, and for each order of two errors.
func badLoads() []badList {
	l := []badList{{make([]int, 201), api.ErrLarge}, {slices.Repeat([]int{-1}, 201), api.ErrLarge}, {append([]int{-1}, make([]int, 200)...), api.ErrLarge}, {append(make([]int, 200), 1001), api.ErrLarge}, {make([]int, 5000), api.ErrLarge}}
	for _, n := range outside(0, 1000) {
		l = append(l, badList{[]int{n}, api.ErrRange}, badList{[]int{0, 1000, n}, api.ErrRange}, badList{append(make([]int, 199), n), api.ErrRange})
	}
	return l
}

// P4.2.
func TestBadSteps(t *testing.T) {
	r := edited(goodRules(), func(r *api.SurgeRules) { r.Friction.Lo = 1 })
	good, box := api.SurgeState{Level: 5, Flow: 6}, boxOf(1, 2, 3, 4)
	for _, s := range badStates() {
		for _, load := range []int{0, -1} {
			if got := call(surge.Stepped(r, s, api.SurgeStep{Load: load, Friction: 1 + load})); !failed(got, api.ErrRange) {
				t.Error(s, load, got)
			}
		}
		for _, loads := range [][]int{nil, {0}, {-1}, make([]int, 201)} {
			if got := call(surge.RunOf(r, s, api.SurgeRun{Loads: loads, Friction: 1})); !failed(got, api.ErrRange) {
				t.Error(s, loads, got)
			}
		}
	}
	for _, n := range outside(0, 1000) {
		for _, friction := range []int{0, 1} {
			if got := call(surge.Stepped(r, good, api.SurgeStep{Load: n, Friction: friction})); !failed(got, api.ErrRange) {
				t.Error(n, friction, got)
			}
		}
		if got := call(surge.BoxStep(r, box, n)); !failed(got, api.ErrRange) {
			t.Error(n, got)
		}
	}
	for _, n := range outside(1, 2) {
		if got := call(surge.Stepped(r, good, api.SurgeStep{Load: 0, Friction: n})); !failed(got, api.ErrRange) {
			t.Error(n, got)
		}
		for _, loads := range [][]int{nil, {0}, {-1}} {
			if got := call(surge.RunOf(r, good, api.SurgeRun{Loads: loads, Friction: n})); !failed(got, api.ErrRange) {
				t.Error(n, loads, got)
			}
		}
	}
	for _, c := range badLoads() {
		for _, friction := range []int{0, 1, 2, 3} {
			if got := call(surge.RunOf(r, good, api.SurgeRun{Loads: c.loads, Friction: friction})); !failed(got, c.want) {
				t.Error(c, friction, got)
			}
		}
		if got := call(surge.BoxRun(r, box, c.loads)); !failed(got, c.want) {
			t.Error(c, got)
		}
		for _, b := range badBoxes() {
			if got := call(surge.BoxRun(r, b.box, c.loads)); !failed(got, b.want) {
				t.Error(b, c, got)
			}
		}
	}
	for _, b := range badBoxes() {
		for _, load := range []int{0, -1} {
			if got := call(surge.BoxStep(r, b.box, load)); !failed(got, b.want) {
				t.Error(b, load, got)
			}
		}
		if got := call(surge.BoxRun(r, b.box, nil)); !failed(got, b.want) {
			t.Error(b, got)
		}
	}
}

// P4.2.
func TestEndsOfLoads(t *testing.T) {
	r, s, b := goodRules(), api.SurgeState{Level: -5, Flow: 6}, boxOf(1, 2, 3, 4)
	for _, loads := range [][]int{nil, {}, {0}, {1000}, make([]int, 200), slices.Repeat([]int{1000}, 200)} {
		if l, e := surge.RunOf(r, s, api.SurgeRun{Loads: loads, Friction: 2}); len(l) != len(loads) || e != api.OK {
			t.Error(loads, l, e)
		}
		if l, e := surge.BoxRun(r, b, loads); len(l) != len(loads) || e != api.OK {
			t.Error(loads, l, e)
		}
	}
}

// P4.8.
func TestNeverCrossing(t *testing.T) {
	r := random(4)
	for range 20000 {
		x, s := randomRules(r), randomState(r)
		higher, faster := s, s
		higher.Level = min(s.Level+chosen(r, 1, 1, r.IntN(1000)), api.MaxSurgeLevel)
		faster.Flow = min(s.Flow+chosen(r, 1, 1, r.IntN(1000)), api.MaxSurgeFlow)
		step := api.SurgeStep{Load: chosen(r, 0, api.MaxSurgeLoad, between(r, 0, api.MaxSurgeLoad)), Friction: chosen(r, x.Friction.Lo, x.Friction.Hi)}
		a, e := surge.Stepped(x, s, step)
		b, f := surge.Stepped(x, higher, step)
		c, g := surge.Stepped(x, faster, step)
		if e != api.OK || f != api.OK || g != api.OK {
			t.Fatal(x, s, step, e, f, g)
		}
		if b.Level < a.Level || b.Flow > a.Flow {
			t.Fatal(x, step, s, a, higher, b)
		}
		if c.Level < a.Level || c.Flow < a.Flow {
			t.Fatal(x, step, s, a, faster, c)
		}
	}
}

// P4.8: all flows, where the inertia is as small as it may be.
func TestNeverCrossingAtLeastInertia(t *testing.T) {
	for _, c := range clashes() {
		x := c.rules
		for _, level := range []int{-1000, -7, 0, 1, 5000} {
			for _, load := range []int{0, 1, 500, 1000} {
				step := api.SurgeStep{Load: load, Friction: x.Friction.Hi}
				before, _ := surge.Stepped(x, api.SurgeState{Level: level, Flow: -1000}, step)
				for flow := -999; flow <= 1000; flow++ {
					after, e := surge.Stepped(x, api.SurgeState{Level: level, Flow: flow}, step)
					higher, f := surge.Stepped(x, api.SurgeState{Level: level + 1, Flow: flow}, step)
					if e != api.OK || f != api.OK || after.Level < before.Level || after.Flow < before.Flow || higher.Level < after.Level || higher.Flow > after.Flow {
						t.Fatal(x, level, flow, load, before, after, higher)
					}
					before = after
				}
			}
		}
	}
}

// P4.9.
func TestEnclosed(t *testing.T) {
	r := random(5)
	for range 1500 {
		x, b, load := randomRules(r), randomBox(r, 6, 6), chosen(r, 0, api.MaxSurgeLoad, between(r, 0, api.MaxSurgeLoad))
		after, e := surge.BoxStep(x, b, load)
		if e != api.OK {
			t.Fatal(x, b, load, e)
		}
		for _, s := range statesOf(b) {
			for _, friction := range []int{x.Friction.Lo, between(r, x.Friction.Lo, x.Friction.Hi), x.Friction.Hi} {
				if next, e := surge.Stepped(x, s, api.SurgeStep{Load: load, Friction: friction}); e != api.OK || !liesIn(next, after) {
					t.Fatal(x, b, load, s, friction, next, after)
				}
			}
		}
		part := smaller(r, b)
		if next, e := surge.BoxStep(x, part, load); e != api.OK || !boxInside(next, after) {
			t.Fatal(x, b, part, load, next, after)
		}
	}
}

// P4.9: all frictions, and all steps of runs.
func TestRunsAreEnclosed(t *testing.T) {
	r := random(6)
	for range 1000 {
		x, b, loads := randomRules(r), randomBox(r, 50, 50), randomLoads(r, 20)
		boxes, e := surge.BoxRun(x, b, loads)
		if e != api.OK {
			t.Fatal(x, b, loads, e)
		}
		s := randomStarts(r, b, 1)[0]
		for friction := x.Friction.Lo; friction <= x.Friction.Hi; friction++ {
			states, e := surge.RunOf(x, s, api.SurgeRun{Loads: loads, Friction: friction})
			if e != api.OK {
				t.Fatal(x, s, loads, friction, e)
			}
			for i := range states {
				if !liesIn(states[i], boxes[i]) {
					t.Fatal(x, b, s, loads, friction, i, states[i], boxes[i])
				}
			}
		}
	}
}
