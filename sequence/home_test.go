package sequence_test

import (
	"slices"
	"strconv"
	"testing"

	"guidevane/api"
	"guidevane/sequence"
)

// trapPlan is the plan of example 6.
func trapPlan() api.SequencePlan {
	return edited(func(p *api.SequencePlan) { p.Steps[brake].Back, p.Steps[brake].Off = brake, speed })
}

// counter returns a plan that counts from 31 down to 0 in the signals: the step 1+i takes the signal i off and those below it on, the step 5+i looks whether the signal i is on.
func counter() api.SequencePlan {
	p := planOf(5, 31, api.SequenceStep{Safe: true, Exits: []int{1}, Home: 1})
	for i := range 5 {
		next := 1
		if i == 0 {
			next = 6
		}
		p.Steps = append(p.Steps, api.SequenceStep{Name: "down" + strconv.Itoa(i), Wait: 2, Time: 1, MakesOff: 1 << i, MakesOn: 1<<i - 1, Next: next, Back: next})
	}
	for i := 1; i < 5; i++ {
		p.Steps = append(p.Steps, api.SequenceStep{Name: "look" + strconv.Itoa(i), Wait: 2, Time: 1, On: 1 << i, Next: 1 + i, Back: (6 + i) % 10})
	}
	return p
}

// P7.3 and example 2; edge cases: needs that are missing, also of safe steps.
func TestHomeOf(t *testing.T) {
	for _, c := range []struct {
		plan  api.SequencePlan
		from  api.SequenceState
		fault api.SequenceFault
		want  []api.SequenceState
		ticks int
	}{
		{examplePlan(), at(turbine, 3), fine(), path(stop, 3, rest, 0), 21},
		{examplePlan(), at(turbine, 3), seenOn(1), path(stop, 3, brake, 0, rest, 0), 91},
		{examplePlan(), at(turbine, 3), seenOff(1), path(stop, 3, rest, 0), 21},
		{examplePlan(), at(rest, 0), fine(), nil, 0},
		{examplePlan(), at(rest, 3), seenOn(0), nil, 0},
		{examplePlan(), at(start, 0), fine(), path(turbine, 3, stop, 3, rest, 0), 51},
		{examplePlan(), at(start, 0), seenOff(0), path(stop, 3, rest, 0), 80},
		{examplePlan(), at(start, 0), seenOn(1), path(turbine, 3, stop, 3, brake, 0, rest, 0), 121},
		{examplePlan(), at(brake, 3), seenOn(0), path(rest, 0), 90},
		{trapPlan(), at(turbine, 3), fine(), path(stop, 3, rest, 0), 21},
		{trapPlan(), at(rest, 0), seenOn(1), nil, 0},
		{mixed(), at(0, 1), fine(), nil, 0},
		{mixed(), at(0, 0), seenOn(0), nil, 0},
		{mixed(), at(0, 4), fine(), path(4, 4, 5, 4, 0, 5), 22},
		{mixed(), at(0, 5), seenOff(2), nil, 0},
		{mixed(), at(2, 1), fine(), path(0, 3), 50},
		{mixed(), at(4, 7), fine(), path(5, 4, 0, 5), 24},
		{sized(0, 3), at(2, 0), fine(), nil, 0},
	} {
		if l, n, e := sequence.HomeOf(c.plan, c.from, c.fault); !slices.Equal(l, c.want) || n != c.ticks || e != api.OK {
			t.Error(c.from, c.fault, l, n, e)
		}
	}
	l, n, e := sequence.HomeOf(counter(), at(1, 31), fine())
	if len(l) != 61 || n != 76 || e != api.OK || l[0] != at(6, 30) || l[60] != at(0, 0) {
		t.Error(l, n, e)
	}
}

// P7.3, edge cases: steps that trip to themselves, that have no exits, and rounds of several steps are traps.
func TestHomeOfTraps(t *testing.T) {
	leadsTo1 := api.SequenceStep{Exits: []int{0, 1}, Home: 1}
	for _, c := range []struct {
		plan  api.SequencePlan
		from  api.SequenceState
		fault api.SequenceFault
	}{
		{trapPlan(), at(turbine, 3), seenOn(1)}, {trapPlan(), at(start, 0), seenOn(1)}, {trapPlan(), at(brake, 0), seenOn(1)},
		{mixed(), at(0, 0), fine()}, {mixed(), at(1, 2), fine()}, {mixed(), at(1, 2), seenOff(1)}, {mixed(), at(1, 0), fine()}, {mixed(), at(3, 1), fine()}, {mixed(), at(4, 7), seenOn(1)}, {mixed(), at(0, 5), seenOff(0)},
		{planOf(1, 0, api.SequenceStep{Safe: true, Needs: 1}), at(0, 0), fine()},
		{planOf(1, 0, api.SequenceStep{Safe: true, Needs: 1}), at(0, 1), seenOff(0)},
		{planOf(0, 0, api.SequenceStep{Safe: true}, leadsTo1, leadsTo1), at(2, 0), fine()},
		{planOf(0, 0, api.SequenceStep{Safe: true}, api.SequenceStep{Exits: []int{2}, Home: 2}, leadsTo1), at(1, 0), fine()},
		{planOf(0, 0, api.SequenceStep{Safe: true}, api.SequenceStep{Wait: 1, Time: 1, Next: 1}), at(1, 0), fine()},
		{counter(), at(1, 31), seenOn(1)},
	} {
		if got := call(sequence.HomeOf(c.plan, c.from, c.fault)); !failed(got, api.ErrNone) {
			t.Error(c.from, c.fault, got)
		}
	}
}

// P7.3: the ways home from all states of random plans. Each of their states is the one after the turn home.
func TestHomesAgainstModel(t *testing.T) {
	r := random(3)
	traps, longest := 0, 0
	for range 250 {
		p := randomPlan(r, kind{4, 10, 5})
		f := randomFault(r, p)
		homes := modelHomes(p, f)
		for _, s := range allStates(p) {
			want, ok := homes[s]
			l, n, e := sequence.HomeOf(p, s, f)
			if !ok {
				traps++
				if !failed(call(l, n, e), api.ErrNone) {
					t.Fatal(p, s, f, l, n, e)
				}
				continue
			}
			if len(l) != want.turns || n != want.ticks || e != api.OK {
				t.Fatal(p, s, f, l, n, e)
			}
			longest = max(longest, len(l))
			for _, next := range l {
				if turned, _, e := sequence.HomeTurn(p, s, f); turned != next || e != api.OK {
					t.Fatal(p, s, f, l)
				}
				s = next
			}
			if !modelIsHome(p, s, f) {
				t.Fatal(p, s, f, l)
			}
		}
	}
	if traps < 1000 || longest < 5 {
		t.Error(traps, longest)
	}
}

// P7.4.
func TestLongestHome(t *testing.T) {
	for _, c := range []struct {
		plan api.SequencePlan
		want int
	}{
		{examplePlan(), 121},
		{sized(5, 10), 0},
		{planOf(0, 0, api.SequenceStep{Safe: true, Exits: []int{1, 2}, Home: 2}, api.SequenceStep{Exits: []int{0}}, api.SequenceStep{Exits: []int{1}, Home: 1}, api.SequenceStep{Exits: []int{2}, Home: 2}), 2}, // the step 3 is not reached
		{planOf(0, 0, api.SequenceStep{Safe: true, Exits: []int{1}, Home: 1}, api.SequenceStep{Wait: 10000, Time: 10000}), 10000},
		{planOf(0, 0, api.SequenceStep{Safe: true, Exits: []int{1}, Home: 1}, api.SequenceStep{Wait: 10000, Time: 1}), 1},
		{planOf(1, 0, api.SequenceStep{Safe: true, Exits: []int{1}, Home: 1}, api.SequenceStep{Wait: 10000, Time: 1, Off: 1}), 10000}, // with the fault alone
	} {
		if n, e := sequence.LongestHome(c.plan); n != c.want || e != api.OK {
			t.Error(c, n, e)
		}
	}
	for _, p := range []api.SequencePlan{trapPlan(), mixed(), planOf(1, 1, api.SequenceStep{Safe: true, Needs: 1})} {
		if n, e := sequence.LongestHome(p); n != 0 || e != api.ErrClash {
			t.Error(p, n, e)
		}
	}
}
