package surge_test

import (
	"math"
	"reflect"
	"slices"
	"testing"

	"guidevane/api"
	"guidevane/surge"
)

func witnessOf(level, flow, friction, highest int, order ...int) api.SurgeWitness {
	return api.SurgeWitness{Order: order, Start: api.SurgeState{Level: level, Flow: flow}, Friction: friction, Level: highest}
}

func sameWitness(a, b api.SurgeWitness) bool {
	return slices.Equal(a.Order, b.Order) && a.Start == b.Start && a.Friction == b.Friction && a.Level == b.Level
}

// P4.5, with each rule by which one of several worst witnesses is chosen.
func TestWorstOf(t *testing.T) {
	r := goodRules()
	rough := edited(r, func(r *api.SurgeRules) { r.Friction.Lo = 2 })
	s := func(level, flow int) api.SurgeState { return api.SurgeState{Level: level, Flow: flow} }
	for _, c := range []struct {
		rules  api.SurgeRules
		plan   api.SurgePlan
		starts []api.SurgeState
		want   api.SurgeWitness
	}{
		{r, dropPlan(), []api.SurgeState{s(0, 100)}, witnessOf(0, 100, 0, 58, 0)},
		{rough, dropPlan(), []api.SurgeState{s(0, 100)}, witnessOf(0, 100, 2, 56, 0)},
		{r, dropPlan(), []api.SurgeState{s(0, -100)}, witnessOf(0, -100, 0, -20, 0)},
		{r, planOf(0, 1, 1), []api.SurgeState{s(0, -100)}, witnessOf(0, -100, 0, -20)},
		{r, planOf(0, 1, 2), []api.SurgeState{s(-5, -300)}, witnessOf(-5, -300, 2, -62)}, // more friction brakes the flow out of the chamber
		{r, planOf(0, 1, 1), []api.SurgeState{s(0, 99), s(0, 100), s(0, 99)}, witnessOf(0, 100, 0, 20)},
		{r, planOf(0, 1, 1), []api.SurgeState{s(0, 95), s(1, 90), s(0, 96)}, witnessOf(0, 95, 0, 19)}, // the first start
		{r, planOf(0, 1, 1), []api.SurgeState{s(1, 90), s(0, 96), s(0, 95)}, witnessOf(1, 90, 0, 19)},
		{r, planOf(10, 2, 4, 5, 5), []api.SurgeState{s(0, 100)}, witnessOf(0, 100, 0, 62, 0, 1)}, // the first order
		{r, planOf(500, 20, 20, 9, -9, 5), []api.SurgeState{s(0, 0)}, witnessOf(0, 0, 0, -99, 1, 0, 2)},
		{r, planOf(0, 1, 1), []api.SurgeState{s(0, 0)}, witnessOf(0, 0, 0, 0)},          // the lower end
		{r, planOf(1000, 1, 3), []api.SurgeState{s(500, 0)}, witnessOf(500, 0, 0, 290)}, // the level before the run does not count
	} {
		w, e := surge.WorstOf(c.rules, c.plan, c.starts)
		if !sameWitness(w, c.want) || e != api.OK {
			t.Error(c, w, e)
		}
		if e := surge.CheckWitness(c.rules, c.plan, w); e != api.OK {
			t.Error(c, w, e)
		}
		if model := modelWorst(c.rules, c.plan, c.starts); len(model) != 1 || !sameWitness(model[0], c.want) {
			t.Error(c, model)
		}
	}
}

// P4.5.
func TestBadStarts(t *testing.T) {
	r := goodRules()
	bad := api.SurgeState{Level: math.MinInt}
	for _, c := range []struct {
		starts []api.SurgeState
		want   api.Errno
	}{
		{nil, api.ErrShape}, {[]api.SurgeState{}, api.ErrShape}, {make([]api.SurgeState, 41), api.ErrLarge}, {slices.Repeat([]api.SurgeState{bad}, 41), api.ErrLarge}, {append([]api.SurgeState{bad}, make([]api.SurgeState, 40)...), api.ErrLarge}, {make([]api.SurgeState, 3000), api.ErrLarge},
	} {
		for _, p := range []api.SurgePlan{goodPlan(), refusedPlan()} {
			if got := call(surge.WorstOf(r, p, c.starts)); !failed(got, c.want) {
				t.Error(c, p, got)
			}
		}
	}
	for _, s := range badStates() {
		for _, p := range []api.SurgePlan{goodPlan(), refusedPlan()} {
			for _, starts := range [][]api.SurgeState{{s}, {{}, s}, append(make([]api.SurgeState, 39), s)} {
				if got := call(surge.WorstOf(r, p, starts)); !failed(got, api.ErrRange) {
					t.Error(starts, p, got)
				}
			}
		}
	}
	for _, starts := range [][]api.SurgeState{{{}}, make([]api.SurgeState, 40)} {
		if got := call(surge.WorstOf(r, refusedPlan(), starts)); !failed(got, api.ErrNone) {
			t.Error(got)
		}
		if w, e := surge.WorstOf(r, goodPlan(), starts); len(w.Order) != 3 || e != api.OK {
			t.Error(w, e)
		}
	}
}

// P4.5.
func TestCheckWitness(t *testing.T) {
	r := edited(goodRules(), func(r *api.SurgeRules) { r.Friction = api.Range{Lo: 1, Hi: 3} })
	for _, c := range []struct {
		witness api.SurgeWitness
		want    api.Errno
	}{
		{witnessOf(0, 100, 2, 56, 0), api.OK}, {witnessOf(0, 100, 1, 56, 0), api.OK}, {witnessOf(0, 100, 3, 56, 0), api.ErrProof}, {witnessOf(0, 100, 3, 54, 0), api.OK},
		{witnessOf(0, 100, 2, 55, 0), api.ErrProof}, {witnessOf(0, 100, 2, 57, 0), api.ErrProof}, {witnessOf(0, 100, 2, math.MinInt, 0), api.ErrProof}, {witnessOf(0, 100, 2, math.MaxInt, 0), api.ErrProof}, {witnessOf(0, 100, 2, 0, 0), api.ErrProof}, {witnessOf(1, 100, 2, 56, 0), api.ErrProof}, {witnessOf(0, 110, 2, 56, 0), api.ErrProof},
		{witnessOf(0, 100, 0, 58, 0), api.ErrRange}, {witnessOf(0, 100, 4, 55, 0), api.ErrRange}, {witnessOf(0, 1001, 2, 56, 0), api.ErrRange}, {witnessOf(-100001, 0, 2, 56, 0), api.ErrRange},
		{witnessOf(0, 100, 2, 56), api.ErrShape}, {witnessOf(0, 1001, 0, 56, 1), api.ErrMissing},
		{witnessOf(0, -100, 2, -20, 0), api.OK}, {witnessOf(0, -100, 2, 0, 0), api.ErrProof}, // the start does not count
	} {
		if e := surge.CheckWitness(r, dropPlan(), c.witness); e != c.want {
			t.Error(c, e)
		}
	}
	for _, s := range badStates() {
		for _, friction := range append(outside(1, 3), 2) {
			if e := surge.CheckWitness(r, dropPlan(), api.SurgeWitness{Order: []int{0}, Start: s, Friction: friction}); e != api.ErrRange {
				t.Error(s, friction, e)
			}
		}
	}
	for _, friction := range outside(1, 3) {
		if e := surge.CheckWitness(r, dropPlan(), witnessOf(0, 100, friction, 56, 0)); e != api.ErrRange {
			t.Error(friction, e)
		}
	}
}

// P4.5 and P4.10: the worst witness is accepted, and no witness of one of its starts has a higher level.
func TestWitnessesAgainstModel(t *testing.T) {
	r := random(10)
	frictions := map[bool]int{}
	for range 600 {
		x, p := randomRules(r), randomPlan(r, 40)
		starts := randomStarts(r, randomBox(r, 30, 30), between(r, 1, 6))
		if r.IntN(3) == 0 {
			starts = append(starts, starts[0])
		}
		want := modelWorst(x, p, starts)
		worst, e := surge.WorstOf(x, p, starts)
		if len(want) == 0 {
			if !reflect.ValueOf(worst).IsZero() || e != api.ErrNone {
				t.Fatal(x, p, starts, worst, e)
			}
			continue
		}
		if !sameWitness(worst, want[0]) || e != api.OK {
			t.Fatal(x, p, starts, worst, e, want)
		}
		frictions[worst.Friction == x.Friction.Lo]++
		if e := surge.CheckWitness(x, p, worst); e != api.OK {
			t.Fatal(x, p, worst, e)
		}
		w := api.SurgeWitness{Order: chosen(r, modelOrders(p)...), Start: chosen(r, starts...), Friction: between(r, x.Friction.Lo, x.Friction.Hi)}
		w.Level = modelHighest(x, w.Start, modelLoads(p, w.Order), w.Friction)
		if e := surge.CheckWitness(x, p, w); e != api.OK || w.Level > worst.Level && (w.Friction == x.Friction.Lo || w.Friction == x.Friction.Hi) {
			t.Fatal(x, p, w, e, worst)
		}
		w.Level += chosen(r, -1, 1, between(r, 1, 1000), -w.Level-5000000)
		if e := surge.CheckWitness(x, p, w); e != api.ErrProof {
			t.Fatal(x, p, w, e)
		}
	}
	if frictions[true] < 10 || frictions[false] < 10 {
		t.Error("the worst friction was nearly always the same end", frictions)
	}
}

// P4.10: the level of a witness whose start lies in one of some boxes is at most the upper end of their bound.
func TestWorstIsBounded(t *testing.T) {
	r := random(11)
	for range 300 {
		x, p := randomRules(r), randomPlan(r, 60)
		boxes := []api.SurgeBox{randomBox(r, 30, 30), randomBox(r, 5, 5)}
		bound, e := surge.BoundOf(x, p, boxes)
		if len(modelOrders(p)) == 0 {
			continue
		}
		if e != api.OK {
			t.Fatal(x, p, boxes, e)
		}
		starts := append(randomStarts(r, boxes[0], 10), randomStarts(r, boxes[1], 10)...)
		if worst, e := surge.WorstOf(x, p, starts); e != api.OK || worst.Level > bound.Hi {
			t.Fatal(x, p, boxes, worst, e, bound)
		}
		for _, start := range starts {
			for _, order := range modelOrders(p) {
				w := api.SurgeWitness{Order: order, Start: start, Friction: between(r, x.Friction.Lo, x.Friction.Hi)}
				w.Level = modelHighest(x, w.Start, modelLoads(p, w.Order), w.Friction)
				if e := surge.CheckWitness(x, p, w); e != api.OK || w.Level > bound.Hi {
					t.Fatal(x, p, boxes, w, e, bound)
				}
			}
		}
	}
}
