package surge_test

import (
	"math"
	"math/rand/v2"
	"slices"
	"testing"

	"guidevane/api"
	"guidevane/surge"
)

func coverOf(starts api.SurgeBox, parts, lo, hi int) api.SurgeCover {
	return api.SurgeCover{Starts: starts, Parts: parts, Limits: api.Range{Lo: lo, Hi: hi}}
}

// P4.6, edge case: parts without numbers are left out.
func TestCoverOf(t *testing.T) {
	for _, c := range []struct {
		box   api.SurgeBox
		parts int
		want  []api.SurgeBox
	}{
		{boxOf(0, 4, 0, 1), 2, []api.SurgeBox{boxOf(0, 1, 0, 0), boxOf(0, 1, 1, 1), boxOf(2, 4, 0, 0), boxOf(2, 4, 1, 1)}},
		{boxOf(0, 4, 0, 1), 1, []api.SurgeBox{boxOf(0, 4, 0, 1)}},
		{boxOf(0, 4, 0, 1), 3, []api.SurgeBox{boxOf(0, 0, 0, 0), boxOf(0, 0, 1, 1), boxOf(1, 2, 0, 0), boxOf(1, 2, 1, 1), boxOf(3, 4, 0, 0), boxOf(3, 4, 1, 1)}},
		{boxOf(5, 5, -7, -7), 8, []api.SurgeBox{boxOf(5, 5, -7, -7)}},
		{boxOf(-5, -3, 9, 9), 2, []api.SurgeBox{boxOf(-5, -5, 9, 9), boxOf(-4, -3, 9, 9)}},
		{boxOf(-4, 5, -1, -1), 4, []api.SurgeBox{boxOf(-4, -3, -1, -1), boxOf(-2, 0, -1, -1), boxOf(1, 2, -1, -1), boxOf(3, 5, -1, -1)}},
		{boxOf(7, 7, 0, 2), 8, []api.SurgeBox{boxOf(7, 7, 0, 0), boxOf(7, 7, 1, 1), boxOf(7, 7, 2, 2)}},
		{boxOf(-100000, 100000, 1000, 1000), 2, []api.SurgeBox{boxOf(-100000, -1, 1000, 1000), boxOf(0, 100000, 1000, 1000)}},
		{boxOf(-100000, -100000, -1000, 1000), 2, []api.SurgeBox{boxOf(-100000, -100000, -1000, -1), boxOf(-100000, -100000, 0, 1000)}},
	} {
		x := coverOf(c.box, c.parts, 0, 0)
		if l, e := surge.CoverOf(goodRules(), x); !slices.Equal(l, c.want) || e != api.OK {
			t.Error(c, l, e)
		}
		if l := modelCover(x); !slices.Equal(l, c.want) {
			t.Error(c, l)
		}
	}
	if l, e := surge.CoverOf(goodRules(), coverOf(boxOf(-100000, 100000, -1000, 1000), 8, -100000, 100000)); len(l) != 64 || e != api.OK {
		t.Error(l, e)
	}
}

type badCover struct {
	cover api.SurgeCover
	want  api.Errno
}

// badCovers returns covers for each error of a cover, and for each order of two errors.
func badCovers() []badCover {
	good := boxOf(0, 4, 0, 1)
	l := []badCover{{coverOf(good, 2, 1, 0), api.ErrOrder}, {coverOf(good, 2, 100000, -100000), api.ErrOrder}, {coverOf(good, 8, -5, -6), api.ErrOrder}, {api.SurgeCover{}, api.ErrRange}}
	for _, b := range badBoxes() {
		l = append(l, badCover{coverOf(b.box, 2, 0, 0), b.want}, badCover{coverOf(b.box, 0, 1, 0), b.want}, badCover{coverOf(b.box, 2, 100001, 0), b.want}, badCover{coverOf(b.box, 2, 1, 0), b.want})
	}
	for _, n := range outside(1, 8) {
		l = append(l, badCover{coverOf(good, n, 0, 0), api.ErrRange}, badCover{coverOf(good, n, 1, 0), api.ErrRange})
	}
	for _, n := range outside(-100000, 100000) {
		l = append(l, badCover{coverOf(good, 2, n, 0), api.ErrRange}, badCover{coverOf(good, 2, 0, n), api.ErrRange}, badCover{coverOf(good, 2, n, n), api.ErrRange})
	}
	return l
}

// P4.6.
func TestBadCovers(t *testing.T) {
	for _, c := range badCovers() {
		if got := call(surge.CoverOf(goodRules(), c.cover)); !failed(got, c.want) {
			t.Error(c, got)
		}
		for _, p := range []api.SurgePlan{goodPlan(), refusedPlan()} {
			if got := call(surge.ShortestWait(goodRules(), p, c.cover)); !failed(got, c.want) {
				t.Error(c, p, got)
			}
		}
	}
}

// P4.11: every state of the box lies in exactly one box of its cover.
func TestCovered(t *testing.T) {
	r := random(12)
	for range 1500 {
		x, b := randomRules(r), randomBox(r, chosen(r, 1, 3, 20), chosen(r, 1, 3, 20))
		c := coverOf(b, between(r, 1, 8), -5, 5)
		boxes, e := surge.CoverOf(x, c)
		if !slices.Equal(boxes, modelCover(c)) || e != api.OK {
			t.Fatal(b, c, boxes, e)
		}
		count := 0
		for _, part := range boxes {
			count += len(statesOf(part))
		}
		states := statesOf(b)
		if count != len(states) {
			t.Fatal(b, c, boxes, count)
		}
		for _, s := range states {
			if !slices.ContainsFunc(boxes, func(b api.SurgeBox) bool { return liesIn(s, b) }) {
				t.Fatal(b, c, boxes, s)
			}
		}
		if s, e := surge.CoversAll(x, b, boxes); s != (api.SurgeState{}) || e != api.OK {
			t.Fatal(b, c, boxes, s, e)
		}
		left := r.IntN(len(boxes))
		first := api.SurgeState{Level: boxes[left].Levels.Lo, Flow: boxes[left].Flows.Lo}
		if fewer := slices.Delete(slices.Clone(boxes), left, left+1); len(fewer) > 0 {
			if s, e := surge.CoversAll(x, b, fewer); s != first || e != api.ErrGap {
				t.Fatal(b, c, left, s, e)
			}
		}
	}
}

// P4.6.
func TestCoversAll(t *testing.T) {
	four := []api.SurgeBox{boxOf(0, 1, 0, 0), boxOf(0, 1, 1, 1), boxOf(2, 4, 0, 0), boxOf(2, 4, 1, 1)}
	for _, c := range []struct {
		box   api.SurgeBox
		boxes []api.SurgeBox
		want  api.SurgeState
		e     api.Errno
	}{
		{boxOf(0, 4, 0, 1), four, api.SurgeState{}, api.OK},
		{boxOf(0, 4, 0, 1), four[:3], api.SurgeState{Level: 2, Flow: 1}, api.ErrGap},
		{boxOf(0, 4, 0, 1), four[1:], api.SurgeState{Level: 0, Flow: 0}, api.ErrGap},
		{boxOf(0, 4, 0, 1), append([]api.SurgeBox{four[0]}, four[2:]...), api.SurgeState{Level: 0, Flow: 1}, api.ErrGap},
		{boxOf(0, 5, 0, 1), four, api.SurgeState{Level: 5, Flow: 0}, api.ErrGap},
		{boxOf(0, 4, 0, 2), four, api.SurgeState{Level: 0, Flow: 2}, api.ErrGap},
		{boxOf(-1, 4, -1, 1), four, api.SurgeState{Level: -1, Flow: -1}, api.ErrGap},
		{boxOf(3, 3, 1, 1), four[3:], api.SurgeState{}, api.OK},
		{boxOf(0, 2, 0, 2), []api.SurgeBox{boxOf(-9, 9, 0, 1), boxOf(0, 0, 2, 2), boxOf(2, 9, 0, 2)}, api.SurgeState{Level: 1, Flow: 2}, api.ErrGap},
		{boxOf(0, 2, 0, 2), []api.SurgeBox{boxOf(0, 1, 0, 2), boxOf(1, 2, 0, 2)}, api.SurgeState{}, api.OK},
		{boxOf(-3, -3, -9, -8), []api.SurgeBox{boxOf(-3, -3, -9, -9)}, api.SurgeState{Level: -3, Flow: -8}, api.ErrGap},
		{boxOf(0, 3999, 0, 0), []api.SurgeBox{boxOf(0, 3999, 0, 0)}, api.SurgeState{}, api.OK},
		{boxOf(0, 3999, 0, 0), []api.SurgeBox{boxOf(0, 3998, 0, 0)}, api.SurgeState{Level: 3999}, api.ErrGap},
		{boxOf(0, 4000, 0, 0), []api.SurgeBox{boxOf(0, 4000, 0, 0)}, api.SurgeState{}, api.ErrLarge},
		{boxOf(0, 4000, 0, 0), []api.SurgeBox{{}}, api.SurgeState{}, api.ErrLarge},
		{boxOf(-1, 1, 0, 999), []api.SurgeBox{boxOf(-1, 1, 0, 1000)}, api.SurgeState{}, api.OK},
		{boxOf(0, 1, -1000, 1000), []api.SurgeBox{boxOf(-1, 1, -1000, 1000)}, api.SurgeState{}, api.ErrLarge}, // 4002 states
		{boxOf(0, 1, -1000, 999), []api.SurgeBox{boxOf(-1, 1, -1000, 1000)}, api.SurgeState{}, api.OK},
		{boxOf(-100000, 100000, -1000, 1000), []api.SurgeBox{boxOf(-100000, 100000, -1000, 1000)}, api.SurgeState{}, api.ErrLarge},
		{boxOf(5, 5, 5, 5), []api.SurgeBox{boxOf(-100000, 100000, -1000, 1000)}, api.SurgeState{}, api.OK},
	} {
		if s, e := surge.CoversAll(goodRules(), c.box, c.boxes); s != c.want || e != c.e {
			t.Error(c, s, e)
		}
	}
}

// P4.6.
func TestCoversAllAgainstModel(t *testing.T) {
	r := random(13)
	gaps := 0
	for range 2000 {
		b := randomBox(r, 8, 8)
		boxes := []api.SurgeBox{}
		for range between(r, 1, 12) {
			boxes = append(boxes, smaller(r, b))
		}
		var want api.SurgeState
		wantError := api.OK
		for _, s := range statesOf(b) {
			if wantError == api.OK && !slices.ContainsFunc(boxes, func(b api.SurgeBox) bool { return liesIn(s, b) }) {
				want, wantError = s, api.ErrGap
				gaps++
			}
		}
		if s, e := surge.CoversAll(randomRules(r), b, boxes); s != want || e != wantError {
			t.Fatal(b, boxes, s, e, want)
		}
	}
	if gaps < 100 || gaps > 1950 {
		t.Error("nearly always the same answer", gaps)
	}
}

// P4.6.
func TestBadBoxes(t *testing.T) {
	r := goodRules()
	wide := boxOf(-100000, 100000, -1000, 1000)
	check := func(boxes []api.SurgeBox, want api.Errno) {
		t.Helper()
		for _, p := range []api.SurgePlan{goodPlan(), refusedPlan()} {
			if got := call(surge.BoundOf(r, p, boxes)); !failed(got, want) {
				t.Error(boxes, p, got)
			}
		}
		for _, b := range []api.SurgeBox{{}, wide} {
			if got := call(surge.CoversAll(r, b, boxes)); !failed(got, want) {
				t.Error(boxes, b, got)
			}
		}
		for _, c := range badBoxes() {
			if got := call(surge.CoversAll(r, c.box, boxes)); !failed(got, c.want) {
				t.Error(boxes, c, got)
			}
		}
	}
	check(nil, api.ErrShape)
	check([]api.SurgeBox{}, api.ErrShape)
	check(make([]api.SurgeBox, 65), api.ErrLarge)
	check(slices.Repeat([]api.SurgeBox{boxOf(1, 0, 1, 0)}, 65), api.ErrLarge)
	check(append([]api.SurgeBox{boxOf(1, 0, 1, 0)}, make([]api.SurgeBox, 64)...), api.ErrLarge)
	check(make([]api.SurgeBox, 3000), api.ErrLarge)
	check([]api.SurgeBox{boxOf(1, 0, 0, 0), boxOf(100001, 0, 0, 0)}, api.ErrOrder)
	check([]api.SurgeBox{boxOf(100001, 0, 0, 0), boxOf(1, 0, 0, 0)}, api.ErrRange)
	for _, c := range badBoxes() {
		check([]api.SurgeBox{c.box}, c.want)
		check([]api.SurgeBox{{}, wide, c.box}, c.want)
		check(append(make([]api.SurgeBox, 63), c.box), c.want)
	}
	for _, boxes := range [][]api.SurgeBox{{{}}, make([]api.SurgeBox, 64)} {
		if got := call(surge.BoundOf(r, refusedPlan(), boxes)); !failed(got, api.ErrNone) {
			t.Error(boxes, got)
		}
		if bound, e := surge.BoundOf(r, goodPlan(), boxes); bound == (api.Range{}) || e != api.OK {
			t.Error(bound, e)
		}
		if got := call(surge.CoversAll(r, wide, boxes)); !failed(got, api.ErrLarge) {
			t.Error(boxes, got)
		}
	}
}

// P4.6.
func TestBoundOf(t *testing.T) {
	r := goodRules()
	for _, c := range []struct {
		plan  api.SurgePlan
		boxes []api.SurgeBox
		want  api.Range
	}{
		{dropPlan(), []api.SurgeBox{boxOf(0, 0, 100, 100)}, api.Range{Lo: 19, Hi: 58}},
		{planOf(100, 1, 1, -100), []api.SurgeBox{boxOf(0, 0, 100, 100)}, api.Range{Lo: 19, Hi: 20}},
		{planOf(100, 1, 2, -100), []api.SurgeBox{boxOf(0, 0, 100, 100)}, api.Range{Lo: 19, Hi: 39}},
		{planOf(0, 1, 1), []api.SurgeBox{boxOf(0, 0, 100, 100), boxOf(0, 0, -100, -100)}, api.Range{Lo: -20, Hi: 20}},
		{planOf(0, 1, 1), []api.SurgeBox{boxOf(900, 900, 0, 0)}, api.Range{Lo: 882, Hi: 882}}, // neither the level before the steps nor 0 counts
		{planOf(0, 1, 1), []api.SurgeBox{boxOf(-900, -900, 0, 0)}, api.Range{Lo: -882, Hi: -882}},
		{planOf(1000, 1, 1), []api.SurgeBox{boxOf(-100000, -100000, -1000, -1000)}, api.Range{Lo: -100000, Hi: -100000}},
		{planOf(1000, 1, 1), []api.SurgeBox{boxOf(-100000, -100000, 0, 0), boxOf(100000, 100000, 0, 0)}, api.Range{Lo: -100000, Hi: 99600}},
		{planOf(0, 1, 2, 50, -50), []api.SurgeBox{boxOf(0, 0, 0, 0)}, api.Range{Lo: -10, Hi: -10}},
	} {
		if bound, e := surge.BoundOf(r, c.plan, c.boxes); bound != c.want || e != api.OK {
			t.Error(c, bound, e)
		}
		if model := modelBound(r, c.plan, c.boxes); len(model) != 1 || model[0] != c.want {
			t.Error(c, model)
		}
	}
}

// P4.6 and P4.11: boxes that cover more never have a narrower bound.
func TestBoundsAgainstModel(t *testing.T) {
	r := random(14)
	none := 0
	for range 400 {
		x, p := randomRules(r), randomPlan(r, 40)
		b := randomBox(r, 40, 40)
		boxes := append(modelCover(coverOf(b, between(r, 1, 3), 0, 0)), randomBox(r, 3, 3))
		want := modelBound(x, p, boxes)
		bound, e := surge.BoundOf(x, p, boxes)
		if len(want) == 0 {
			if none++; bound != (api.Range{}) || e != api.ErrNone {
				t.Fatal(x, p, boxes, bound, e)
			}
			continue
		}
		if bound != want[0] || e != api.OK {
			t.Fatal(x, p, boxes, bound, e, want)
		}
		fewer := boxes[:between(r, 1, len(boxes))]
		if part, e := surge.BoundOf(x, p, fewer); e != api.OK || !inside(part, bound) {
			t.Fatal(x, p, fewer, part, boxes, bound)
		}
		if part, e := surge.BoundOf(x, p, []api.SurgeBox{smaller(r, b), boxes[len(boxes)-1]}); e != api.OK {
			t.Fatal(x, p, part, e)
		} else if whole, e := surge.BoundOf(x, p, []api.SurgeBox{b, boxes[len(boxes)-1]}); e != api.OK || !inside(part, whole) || !inside(bound, whole) {
			t.Fatal(x, p, b, part, bound, whole)
		}
	}
	if none == 0 {
		t.Error("every plan had a permitted order")
	}
}

// P4.6 and P4.13.
func TestShortestWait(t *testing.T) {
	r := goodRules()
	swinging, slow := rulesOf(10, 2, 2, 2, 0), rulesOf(10, 5, 2, 2, 0)
	box := boxOf(0, 0, 100, 100)
	two := planOf(100, 9, 60, -50, -50)
	for _, c := range []struct {
		rules api.SurgeRules
		plan  api.SurgePlan
		cover api.SurgeCover
		wait  int
		want  api.Errno
	}{
		{r, dropPlan(), coverOf(box, 1, 0, 100), 1, api.OK}, {r, dropPlan(), coverOf(box, 1, 19, 58), 1, api.OK}, {r, dropPlan(), coverOf(box, 8, 19, 58), 1, api.OK}, {r, dropPlan(), coverOf(box, 1, 20, 58), 0, api.ErrNone}, {r, dropPlan(), coverOf(box, 1, 19, 57), 0, api.ErrNone}, {r, dropPlan(), coverOf(box, 1, 0, 50), 0, api.ErrNone},
		{r, planOf(100, 20, 3, -100), coverOf(box, 1, 0, 100), 1, api.OK}, // the plan's own wait does not count
		{r, refusedPlan(), coverOf(box, 1, -100000, 100000), 0, api.ErrNone},
		{swinging, two, coverOf(box, 1, -100000, 100000), 1, api.OK}, {swinging, two, coverOf(box, 1, -181, 210), 1, api.OK}, {swinging, two, coverOf(box, 1, -180, 210), 2, api.OK}, {swinging, two, coverOf(box, 1, -181, 209), 2, api.OK},
		{swinging, two, coverOf(box, 1, -100, 100), 10, api.OK}, {swinging, two, coverOf(box, 1, -18, 95), 13, api.OK}, {swinging, two, coverOf(box, 1, -17, 95), 14, api.OK}, {swinging, two, coverOf(box, 1, -15, 95), 0, api.ErrNone}, {swinging, two, coverOf(box, 1, -100000, 94), 0, api.ErrNone},
		{slow, two, coverOf(box, 1, -19, 57), 19, api.OK}, {slow, two, coverOf(box, 1, -14, 57), 20, api.OK}, {slow, two, coverOf(box, 1, -13, 57), 0, api.ErrNone},
	} {
		if n, e := surge.ShortestWait(c.rules, c.plan, c.cover); n != c.wait || e != c.want {
			t.Error(c, n, e)
		}
	}
}

// limitsNear returns limits that nearly are a bound, at one of its ends or at both.
func limitsNear(r *rand.Rand, bound api.Range) api.Range {
	lo, hi := bound.Lo+chosen(r, 0, 0, -1, 1), bound.Hi+chosen(r, 0, 0, -1, 1)
	lo, hi = chosen(r, lo, lo, -api.MaxSurgeLevel), chosen(r, hi, hi, api.MaxSurgeLevel)
	lo = min(max(lo, -api.MaxSurgeLevel), api.MaxSurgeLevel)
	return api.Range{Lo: lo, Hi: max(min(hi, api.MaxSurgeLevel), lo)}
}

// P4.6 and P4.13: with the shortest wait the bound lies in the limits, with no shorter one it does.
func TestShortestWaitAgainstModel(t *testing.T) {
	r := random(15)
	waits := map[int]int{}
	for i := range 200 {
		x, p := randomRules(r), randomPlan(r, 40)
		c := coverOf(randomBox(r, 9, 9), 1+i%2, -100000, 100000)
		if i%4 > 0 { // a chamber that swings once in some waits
			x, p.Load, p.Ticks = rulesOf(between(r, 8, 30), between(r, 1, 3), 2, 2, 0), 100, 60
			p.Changes = []int{chosen(r, -40, 40), between(r, 10, 50)}
			c.Starts = boxOf(0, r.IntN(3), 100, 100+r.IntN(3))
		}
		bounds := modelWaits(x, p, c)
		if len(bounds) > 0 && r.IntN(10) > 0 {
			c.Limits = limitsNear(r, chosen(r, bounds...))
		}
		want := 1 + slices.IndexFunc(bounds, func(bound api.Range) bool { return inside(bound, c.Limits) })
		n, e := surge.ShortestWait(x, p, c)
		if n != want || (e == api.OK) != (want > 0) || e != api.OK && e != api.ErrNone {
			t.Fatal(x, p, c, n, e, want)
		}
		waits[n]++
		boxes, _ := surge.CoverOf(x, c)
		for p.Wait = 1; p.Wait <= n; p.Wait++ {
			if bound, e := surge.BoundOf(x, p, boxes); e != api.OK || inside(bound, c.Limits) != (p.Wait == n) {
				t.Fatal(x, p, c, n, bound, e)
			}
		}
	}
	if len(waits) < 8 || waits[0] == 0 {
		t.Error("few waits were the shortest ones", waits)
	}
}

// P4.6: the greatest of all tasks comes to an end.
func TestGreatestTask(t *testing.T) {
	x := api.SurgeRules{Inertia: 1000, Area: 1000, Friction: api.Range{Lo: 0, Hi: 100}, Throttle: 100}
	c := coverOf(boxOf(-1000, 1000, -100, 100), 8, -100000, 100000)
	if n, e := surge.ShortestWait(x, planOf(500, 1, 200, 1, 2, 3, 4), c); n != 1 || e != api.OK {
		t.Error(n, e)
	}
	if n, e := surge.ShortestWait(x, planOf(500, 1, 200, 1, 2, 3, 4), coverOf(c.Starts, 8, math.MinInt, 0)); n != 0 || e != api.ErrRange {
		t.Error(n, e)
	}
}
