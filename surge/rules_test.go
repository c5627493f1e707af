package surge_test

import (
	"math"
	"reflect"
	"slices"
	"testing"

	"guidevane/api"
	"guidevane/surge"
)

// goodRules are the rules of the examples.
func goodRules() api.SurgeRules {
	return api.SurgeRules{Inertia: 10, Area: 5, Friction: api.Range{Lo: 0, Hi: 2}}
}

// edited returns a good value with a change.
func edited[T any](good T, change func(x *T)) T {
	change(&good)
	return good
}

// outside returns numbers that do not lie in a range.
func outside(lo, hi int) []int {
	return []int{lo - 1, hi + 1, lo - 1000, hi + 1000, math.MinInt, math.MinInt + 1, math.MaxInt}
}

type badRule struct {
	rules api.SurgeRules
	want  api.Errno
}

// badRules returns rules for each error of CheckRules, and for each order of two errors.
func badRules() []badRule {
	var l []badRule
	add := func(want api.Errno, change func(r *api.SurgeRules)) {
		l = append(l, badRule{edited(goodRules(), change), want})
	}
	for _, n := range outside(1, 1000) {
		add(api.ErrRange, func(r *api.SurgeRules) { r.Inertia = n })
		add(api.ErrRange, func(r *api.SurgeRules) { r.Area = n })
		add(api.ErrRange, func(r *api.SurgeRules) { r.Inertia, r.Friction = n, api.Range{Lo: 3, Hi: 2} })
		add(api.ErrRange, func(r *api.SurgeRules) { r.Inertia, r.Area = 1, n })
		add(api.ErrRange, func(r *api.SurgeRules) { r.Area, r.Friction = n, api.Range{Lo: 3, Hi: 2} })
	}
	for _, n := range outside(0, 100) {
		add(api.ErrRange, func(r *api.SurgeRules) { r.Friction.Lo = n })
		add(api.ErrRange, func(r *api.SurgeRules) { r.Friction.Hi = n })
		add(api.ErrRange, func(r *api.SurgeRules) { r.Throttle = n })
		add(api.ErrRange, func(r *api.SurgeRules) { r.Friction.Lo, r.Friction.Hi = n, n })
		add(api.ErrRange, func(r *api.SurgeRules) { r.Throttle, r.Friction = n, api.Range{Lo: 3, Hi: 2} })
		add(api.ErrRange, func(r *api.SurgeRules) { r.Throttle, r.Inertia = n, 1 })
	}
	add(api.ErrOrder, func(r *api.SurgeRules) { r.Friction = api.Range{Lo: 3, Hi: 2} })
	add(api.ErrOrder, func(r *api.SurgeRules) { r.Friction = api.Range{Lo: 100, Hi: 0} })
	add(api.ErrOrder, func(r *api.SurgeRules) { r.Friction, r.Inertia = api.Range{Lo: 3, Hi: 2}, 1 })
	for _, c := range clashes() {
		c.rules.Inertia--
		l = append(l, badRule{c.rules, api.ErrClash})
	}
	add(api.ErrClash, func(r *api.SurgeRules) { r.Inertia = 1 })
	return append(l, badRule{want: api.ErrRange})
}

// clashes returns rules whose inertia is as small as it may be.
func clashes() []badRule {
	var l []badRule
	for _, n := range [][3]int{{0, 0, 2}, {1, 0, 5}, {0, 1, 7}, {2, 0, 7}, {3, 0, 9}, {1, 1, 9}, {100, 0, 203}, {0, 100, 403}, {50, 50, 303}, {100, 100, 603}, {99, 1, 205}, {1, 99, 401}} {
		l = append(l, badRule{rules: api.SurgeRules{Inertia: n[2], Area: 1, Friction: api.Range{Hi: n[0]}, Throttle: n[1]}})
	}
	return l
}

// P4.1.
func TestCheckRules(t *testing.T) {
	for _, c := range badRules() {
		if e := surge.CheckRules(c.rules); e != c.want {
			t.Error(c, e)
		}
	}
	for _, c := range append(clashes(), badRule{rules: goodRules()},
		badRule{rules: api.SurgeRules{Inertia: 1000, Area: 1000, Friction: api.Range{Lo: 100, Hi: 100}, Throttle: 100}},
		badRule{rules: api.SurgeRules{Inertia: 2, Area: 1}},
		badRule{rules: api.SurgeRules{Inertia: 1000, Area: 1}}) {
		if e := surge.CheckRules(c.rules); e != api.OK {
			t.Error(c, e)
		}
	}
	r := random(1)
	for range 10000 {
		x := randomRules(r)
		x.Inertia = between(r, 1, 700)
		want := api.OK
		if 2001*x.Friction.Hi+4001*x.Throttle+2000 > 1000*x.Inertia {
			want = api.ErrClash
		}
		if e := surge.CheckRules(x); e != want {
			t.Fatal(x, e)
		}
	}
}

// badStates returns states that are not in their ranges.
func badStates() []api.SurgeState {
	var l []api.SurgeState
	for _, n := range outside(-100000, 100000) {
		l = append(l, api.SurgeState{Level: n}, api.SurgeState{Level: n, Flow: math.MinInt})
	}
	for _, n := range outside(-1000, 1000) {
		l = append(l, api.SurgeState{Flow: n}, api.SurgeState{Level: 100000, Flow: n})
	}
	return l
}

// P4.1.
func TestCheckState(t *testing.T) {
	for _, s := range badStates() {
		if e := surge.CheckState(goodRules(), s); e != api.ErrRange {
			t.Error(s, e)
		}
	}
	for _, s := range []api.SurgeState{{}, {Level: 100000, Flow: 1000}, {Level: -100000, Flow: -1000}, {Level: 100000, Flow: -1000}, {Level: 1001}, {Flow: 7}} {
		if e := surge.CheckState(goodRules(), s); e != api.OK {
			t.Error(s, e)
		}
	}
}

type badBox struct {
	box  api.SurgeBox
	want api.Errno
}

// badBoxes returns boxes for each error of CheckBox, and for each order of two errors.
func badBoxes() []badBox {
	l := []badBox{
		{boxOf(1, 0, 0, 0), api.ErrOrder}, {boxOf(100000, -100000, 0, 0), api.ErrOrder}, {boxOf(0, 0, 1, 0), api.ErrOrder}, {boxOf(0, 0, 1000, -1000), api.ErrOrder}, {boxOf(-5, -6, 0, 0), api.ErrOrder}, {boxOf(0, 0, -5, -6), api.ErrOrder},
		{boxOf(1, 0, 1001, 0), api.ErrOrder}, {boxOf(1, 0, 0, math.MinInt), api.ErrOrder}, {boxOf(1, 0, 1, 0), api.ErrOrder}, {boxOf(100001, 0, 1, 0), api.ErrRange}, {boxOf(0, 100001, 1, 0), api.ErrRange},
		{boxOf(math.MaxInt, math.MinInt, 0, 0), api.ErrRange}, {boxOf(0, 0, math.MaxInt, math.MinInt), api.ErrRange},
	}
	for _, n := range outside(-100000, 100000) {
		l = append(l, badBox{boxOf(n, 0, 0, 0), api.ErrRange}, badBox{boxOf(0, n, 0, 0), api.ErrRange}, badBox{boxOf(n, n, 0, 0), api.ErrRange})
	}
	for _, n := range outside(-1000, 1000) {
		l = append(l, badBox{boxOf(0, 0, n, 0), api.ErrRange}, badBox{boxOf(0, 0, 0, n), api.ErrRange}, badBox{boxOf(0, 0, n, n), api.ErrRange})
	}
	return l
}

// P4.1.
func TestCheckBox(t *testing.T) {
	for _, c := range badBoxes() {
		if e := surge.CheckBox(goodRules(), c.box); e != c.want {
			t.Error(c, e)
		}
	}
	for _, b := range []api.SurgeBox{{}, boxOf(-100000, 100000, -1000, 1000), boxOf(100000, 100000, 1000, 1000), boxOf(-100000, -100000, -1000, -1000), boxOf(0, 1, 5, 5)} {
		if e := surge.CheckBox(goodRules(), b); e != api.OK {
			t.Error(b, e)
		}
	}
}

func call(results ...any) []any {
	return results
}

// failed tells whether results are zero, except for the last one, which is an error.
func failed(results []any, want api.Errno) bool {
	last := len(results) - 1
	for _, result := range results[:last] {
		v := reflect.ValueOf(result)
		if !v.IsZero() && (v.Kind() != reflect.Slice || v.Len() > 0) {
			return false
		}
	}
	return results[last] == want
}

// calls is every function with rules as its argument. The other arguments are as wrong as possible.
func calls(r api.SurgeRules) [][]any {
	state := api.SurgeState{Level: math.MinInt, Flow: math.MaxInt}
	box := boxOf(1, 0, math.MaxInt, math.MinInt)
	loads := slices.Repeat([]int{-1}, 300)
	plan := api.SurgePlan{Load: -1, Changes: make([]int, 9)}
	cover := api.SurgeCover{Starts: box, Limits: api.Range{Lo: 1, Hi: math.MinInt}}
	return [][]any{
		call(surge.CheckState(r, state)), call(surge.CheckBox(r, box)), call(surge.CheckPlan(r, plan)),
		call(surge.Stepped(r, state, api.SurgeStep{Load: -1, Friction: -1})), call(surge.RunOf(r, state, api.SurgeRun{Loads: loads, Friction: -1})),
		call(surge.BoxStep(r, box, -1)), call(surge.BoxRun(r, box, loads)),
		call(surge.OrdersOf(r, plan)), call(surge.LoadsOf(r, plan, []int{-1})),
		call(surge.WorstOf(r, plan, nil)), call(surge.CheckWitness(r, plan, api.SurgeWitness{Order: []int{-1}, Start: state, Friction: -1})),
		call(surge.CoverOf(r, cover)), call(surge.BoundOf(r, plan, nil)), call(surge.CoversAll(r, box, nil)), call(surge.ShortestWait(r, plan, cover)),
	}
}

// P4.1, P4.2, P4.4 to P4.6: the error of the rules comes first, and all else is zero.
func TestBadRules(t *testing.T) {
	for _, c := range badRules() {
		for i, got := range calls(c.rules) {
			if !failed(got, c.want) {
				t.Error(c, i, got)
			}
		}
	}
}

// R2: no call panics or goes on for ever, whatever its arguments are.
func TestAnyArguments(t *testing.T) {
	r := random(2)
	number := func() int {
		return chosen(r, math.MinInt, math.MinInt+1, -100001, -100000, -1001, -1000, -2, -1, 0, 0, 0, 1, 1, 2, 3, 4, 5, 6, 8, 9, 20, 21, 100, 101, 200, 201, 1000, 1001, 100000, 100001, api.MaxPart, api.MaxPart+1, math.MaxInt-1, math.MaxInt)
	}
	numbers := func(n int) []int {
		l := make([]int, r.IntN(n+1))
		for i := range l {
			l[i] = number()
		}
		return l
	}
	ends := func() api.Range { return api.Range{Lo: number(), Hi: number()} }
	for range 20000 {
		x := randomRules(r)
		if r.IntN(4) == 0 {
			x = api.SurgeRules{Inertia: number(), Area: number(), Friction: ends(), Throttle: number()}
		}
		s, b := api.SurgeState{Level: number(), Flow: number()}, api.SurgeBox{Levels: ends(), Flows: ends()}
		if r.IntN(2) == 0 {
			s, b = randomState(r), randomBox(r, 50, 50)
		}
		p := randomPlan(r, 20)
		if r.IntN(4) == 0 {
			p = api.SurgePlan{Load: number(), Changes: numbers(5), Wait: number(), Ticks: number()}
		}
		boxes := slices.Repeat([]api.SurgeBox{b}, r.IntN(4))
		c := api.SurgeCover{Starts: b, Parts: between(r, 0, 2), Limits: ends()}
		surge.CheckRules(x)
		calls(x)
		surge.CheckState(x, s)
		surge.CheckBox(x, b)
		surge.CheckPlan(x, p)
		surge.Stepped(x, s, api.SurgeStep{Load: number(), Friction: number()})
		surge.RunOf(x, s, api.SurgeRun{Loads: numbers(3), Friction: number()})
		surge.BoxStep(x, b, number())
		surge.BoxRun(x, b, numbers(3))
		surge.OrdersOf(x, p)
		surge.LoadsOf(x, p, numbers(4))
		surge.WorstOf(x, p, slices.Repeat([]api.SurgeState{s}, r.IntN(3)))
		surge.CheckWitness(x, p, api.SurgeWitness{Order: numbers(4), Start: s, Friction: number(), Level: number()})
		surge.CoverOf(x, c)
		surge.BoundOf(x, p, boxes)
		surge.CoversAll(x, b, boxes)
		surge.ShortestWait(x, p, c)
		thoma := api.SurgeThoma{Length: number(), Section: number(), Loss: number(), Head: number(), Machines: number()}
		surge.ThomaOf(thoma)
		surge.IsDamped(thoma, ends())
		surge.ParseRules(surge.FormatRules(x))
	}
}

// spoil writes over all memory of a slice, also beyond its end.
func spoil[T any](l []T) {
	clear(l[:cap(l)])
}

// R3 and R4: calls change no argument, and what is done with a result changes neither another part of it nor any argument or later result.
func TestMemory(t *testing.T) {
	x := goodRules()
	s, b := api.SurgeState{Level: 3, Flow: 4}, boxOf(1, 9, 2, 8)
	loads, order := []int{5, 6, 7}, []int{1, 2, 0}
	p := api.SurgePlan{Load: 100, Changes: []int{-80, 30, -50}, Wait: 2, Ticks: 5}
	starts, boxes := []api.SurgeState{{Level: 1, Flow: 2}, {Level: 3, Flow: 4}}, []api.SurgeBox{boxOf(1, 4, 2, 8), boxOf(5, 9, 2, 8)}
	c := api.SurgeCover{Starts: b, Parts: 3, Limits: api.Range{Lo: -500, Hi: 500}}
	results := func() []any {
		run, _ := surge.RunOf(x, s, api.SurgeRun{Loads: loads, Friction: 1})
		boxRun, _ := surge.BoxRun(x, b, loads)
		orders, _ := surge.OrdersOf(x, p)
		ordered, _ := surge.LoadsOf(x, p, order)
		worst, _ := surge.WorstOf(x, p, starts)
		cover, _ := surge.CoverOf(x, c)
		bound, _ := surge.BoundOf(x, p, boxes)
		wait, _ := surge.ShortestWait(x, p, c)
		gap, _ := surge.CoversAll(x, b, boxes[:1])
		proof := surge.CheckWitness(x, p, worst)
		return []any{run, boxRun, orders, ordered, worst, cover, bound, wait, gap, proof}
	}
	before := results()
	for _, result := range results() {
		switch l := result.(type) {
		case []api.SurgeState:
			spoil(l)
		case []api.SurgeBox:
			spoil(l)
		case [][]int:
			for i := range l {
				own := slices.Clone(l[(i+1)%len(l)])
				if spoil(l[i]); !slices.Equal(own, l[(i+1)%len(l)]) {
					t.Error("orders share memory", i)
				}
			}
			spoil(l)
		case []int:
			spoil(l)
		case api.SurgeWitness:
			spoil(l.Order)
		}
	}
	if after := results(); !reflect.DeepEqual(before, after) {
		t.Error(before, after)
	}
	same := slices.Equal(loads, []int{5, 6, 7}) && slices.Equal(order, []int{1, 2, 0}) && slices.Equal(p.Changes, []int{-80, 30, -50}) &&
		slices.Equal(starts, []api.SurgeState{{Level: 1, Flow: 2}, {Level: 3, Flow: 4}}) && slices.Equal(boxes, []api.SurgeBox{boxOf(1, 4, 2, 8), boxOf(5, 9, 2, 8)})
	if !same {
		t.Error("an argument was changed", loads, order, p, starts, boxes)
	}
}
