package sequence_test

import (
	"math"
	"math/rand/v2"
	"reflect"
	"slices"
	"strconv"
	"strings"
	"testing"

	"guidevane/api"
	"guidevane/sequence"
)

func call(results ...any) []any {
	return results
}

// failed tells whether results are zero, except for the last one, which is an error.
func failed(results []any, want api.Errno) bool {
	last := len(results) - 1
	for _, result := range results[:last] {
		v := reflect.ValueOf(result)
		if !v.IsZero() && (v.Kind() != reflect.Slice || v.Len() > 0) {
			return false
		}
	}
	return results[last] == want
}

// ofState is every function with a state. The arguments after it are given.
func ofState(p api.SequencePlan, s api.SequenceState, f api.SequenceFault, n int, commands []int) [][]any {
	return [][]any{
		call(sequence.SeenIn(p, s, f)),
		call(sequence.TurnOf(p, s, api.SequenceTurn{Fault: f, Command: n})),
		call(sequence.HomeTurn(p, s, f)),
		call(sequence.HomeOf(p, s, f)),
		call(sequence.RunOf(p, s, api.SequenceRun{Fault: f, Commands: commands})),
	}
}

// ofPlan is every function with a plan, but for CheckPlan. The other arguments are good, or as wrong as possible.
func ofPlan(p api.SequencePlan) [][]any {
	badState, badFault := at(-1, -1), api.SequenceFault{Signal: -2, On: true}
	return slices.Concat(
		ofState(p, badState, badFault, -2, make([]int, 11)),
		ofState(p, at(0, 0), fine(), -1, nil),
		[][]any{
			call(sequence.CheckState(p, badState)), call(sequence.CheckState(p, at(0, 0))),
			call(sequence.CheckFault(p, badFault)), call(sequence.CheckFault(p, fine())),
			call(sequence.ReachedIn(p, badFault)), call(sequence.ReachedIn(p, fine())),
			call(sequence.FaultsOf(p)), call(sequence.TrapOf(p)), call(sequence.RanksOf(p)), call(sequence.LongestHome(p)),
			call(sequence.CheckRanks(p, nil)), call(sequence.CheckRanks(p, make([]api.SequenceRank, 4001))), call(sequence.CheckRanks(p, []api.SequenceRank{{}, {State: badState}})),
			call(sequence.FastestWay(p, badState, -1)), call(sequence.FastestWay(p, at(0, 0), 0)),
		})
}

// P7.1 to P7.5: the error of the plan comes first, and all else is zero.
func TestBadPlans(t *testing.T) {
	for _, c := range badPlans() {
		for i, got := range ofPlan(c.plan) {
			if !failed(got, c.want) {
				t.Errorf("%+v %v: %v, want %v", c.plan, i, got, c.want)
			}
		}
	}
}

// P7.2, P7.3 and P7.5: the error of the state comes after that of the plan, and before all others.
func TestBadStates(t *testing.T) {
	p := examplePlan()
	for _, c := range badStates() {
		for i, got := range slices.Concat(
			ofState(p, c.state, fine(), -1, nil),
			ofState(p, c.state, seenOn(-1), -2, make([]int, 11)),
			[][]any{call(sequence.FastestWay(p, c.state, 0)), call(sequence.FastestWay(p, c.state, start)), call(sequence.FastestWay(p, c.state, 5))},
		) {
			if !failed(got, c.want) {
				t.Error(c, i, got)
			}
		}
	}
}

// P7.2 to P7.4: the error of the fault comes after those of the plan and the state, and before all others.
func TestBadFaults(t *testing.T) {
	p := examplePlan()
	for _, c := range badFaults() {
		for i, got := range slices.Concat(
			ofState(p, at(rest, 0), c.fault, -1, nil),
			ofState(p, at(rest, 0), c.fault, -2, make([]int, 11)),
			ofState(p, at(start, 0), c.fault, 1, []int{1}),
			[][]any{call(sequence.ReachedIn(p, c.fault))},
		) {
			if !failed(got, c.want) {
				t.Error(c, i, got)
			}
		}
	}
}

// anyPlan returns a plan that often has an error.
func anyPlan(r *rand.Rand, p api.SequencePlan, number func() int) api.SequencePlan {
	for range r.IntN(3) {
		s := &p.Steps[r.IntN(len(p.Steps))]
		field := []*int{&p.Start, &s.Needs, &s.Trip, &s.Wait, &s.Home, &s.On, &s.Off, &s.MakesOn, &s.MakesOff, &s.Time, &s.Next, &s.Back}[r.IntN(12)]
		*field = number()
		if r.IntN(4) == 0 {
			s.Exits = append(s.Exits, number())
		}
		if r.IntN(4) == 0 {
			s.Safe = !s.Safe
		}
		if r.IntN(8) == 0 {
			p.Signals = append(p.Signals, "x")
		}
		if r.IntN(20) == 0 {
			p.Signals = append(p.Signals, strings.Split(strings.Repeat("x", 70), "")...)
		}
	}
	return p
}

// R2: no call panics or goes on for ever, whatever its arguments are.
func TestAnyArguments(t *testing.T) {
	r := random(11)
	number := func() int {
		return chosen(r, math.MinInt, math.MinInt+1, -2, -1, -1, 0, 0, 0, 1, 1, 2, 3, 4, 5, 7, 9, 10, 11, 31, 32, 10000, 10001, math.MaxInt-1, math.MaxInt)
	}
	numbers := func() []int {
		l := make([]int, r.IntN(13))
		for i := range l {
			l[i] = number()
		}
		return l
	}
	fault := func() api.SequenceFault { return api.SequenceFault{Signal: number(), On: r.IntN(2) == 0} }
	for range 5000 {
		p := anyPlan(r, randomPlan(r, kind{5, 10, 5}), number)
		if r.IntN(50) == 0 {
			p = api.SequencePlan{}
		}
		ofPlan(p)
		ofState(p, at(number(), number()), fault(), number(), numbers())
		sequence.CheckPlan(p)
		sequence.ReachedIn(p, fault())
		sequence.FastestWay(p, at(number(), number()), number())
		var ranks []api.SequenceRank
		for range r.IntN(6) {
			ranks = append(ranks, api.SequenceRank{State: at(number(), number()), Fault: fault(), Rank: number()})
		}
		sequence.CheckRanks(p, ranks)
		sequence.Voted([3]int{number(), number(), number()})
		h := api.SequenceHall{Machines: chosen(r, number(), r.IntN(7)), Rules: randomHall(r).Rules}
		if r.IntN(2) == 0 {
			h.Rules = append(h.Rules, api.SequenceRule{Step: number(), Other: number(), Kind: number()})
		}
		sequence.CheckHall(h)
		sequence.BrokenIn(h, numbers())
		sequence.MayEnter(h, chosen(r, numbers(), make([]int, max(0, min(h.Machines, 10)))), api.SequenceEntry{Machine: number(), Step: number()})
		sequence.ParsePlan(sequence.FormatPlan(p))
		sequence.ParseState(sequence.FormatState(at(number(), number())))
	}
}

// P7.4 and P7.5: plans with as many states as there may be, all of which are reached.
func TestLargestPlans(t *testing.T) {
	exits := []int{0, 1, 2, 3, 4, 5, 6, 7, 8, 9}
	switches := planOf(5, 0, api.SequenceStep{Safe: true, Exits: exits})
	for i := range 9 {
		s := api.SequenceStep{Name: "switch" + strconv.Itoa(i), Wait: 1, Time: 1, MakesOn: 1 << i}
		if i >= 5 {
			s.MakesOn, s.MakesOff = 0, 1<<(i-5)
		}
		switches.Steps = append(switches.Steps, s)
	}
	for _, f := range modelFaults(switches) {
		if l, e := sequence.ReachedIn(switches, f); !slices.Equal(l, allStates(switches)) || e != api.OK {
			t.Error(f, len(l), e)
		}
	}
	ranks, e := sequence.RanksOf(switches)
	if i, proof := sequence.CheckRanks(switches, ranks); len(ranks) != 3520 || e != api.OK || i != 0 || proof != api.OK {
		t.Error(len(ranks), e, i, proof)
	}
	steady := sized(5, 10)
	for i := range 10 {
		steady.Steps[i] = api.SequenceStep{Name: steady.Steps[i].Name, Safe: i == 0, Exits: exits}
	}
	if l, n, e := sequence.FastestWay(steady, at(3, 31), 9); !slices.Equal(l, []int{9}) || n != 1 || e != api.OK {
		t.Error(l, n, e)
	}
	if l, e := sequence.RanksOf(steady); len(l) != 110 || e != api.OK {
		t.Error(len(l), e)
	}
}

// spoil writes over all memory of a slice, also beyond its end.
func spoil[T any](l []T) {
	clear(l[:cap(l)])
}

// roomy returns a slice with memory behind its end.
func roomy[T any](l []T) []T {
	return slices.Grow(slices.Clone(l), 9)
}

// R3 and R4: calls change no argument, also not behind the ends of its slices.
func TestMemoryBehindArguments(t *testing.T) {
	p, h := examplePlan(), exampleHall()
	p.Signals, p.Steps, h.Rules = roomy(p.Signals), roomy(p.Steps), roomy(h.Rules)
	for i := range p.Steps {
		p.Steps[i].Exits = roomy(p.Steps[i].Exits)
	}
	commands, steps, ranks := roomy([]int{start, stop}), roomy([]int{1, 2}), roomy(exampleRanks(t))
	ofPlan(p)
	ofState(p, at(rest, 0), fine(), start, commands)
	ofState(p, at(turbine, 3), seenOff(1), stop, commands)
	sequence.FastestWay(p, at(turbine, 3), rest)
	sequence.CheckPlan(p)
	sequence.CheckRanks(p, ranks)
	sequence.CheckHall(h)
	sequence.BrokenIn(h, steps)
	sequence.MayEnter(h, steps, api.SequenceEntry{Machine: 1, Step: 3})
	sequence.FormatPlan(p)
	behind := []any{p.Signals[2:cap(p.Signals)], p.Steps[5:cap(p.Steps)], h.Rules[2:cap(h.Rules)], commands[2:cap(commands)], steps[2:cap(steps)], ranks[21:cap(ranks)]}
	for _, s := range p.Steps {
		behind = append(behind, s.Exits[len(s.Exits):cap(s.Exits)])
	}
	for i, l := range behind {
		for k, v := 0, reflect.ValueOf(l); k < v.Len(); k++ {
			if !v.Index(k).IsZero() {
				t.Error(i, l)
			}
		}
	}
}

// R3 and R4: calls change no argument, and what is done with a result changes neither any argument nor a later result.
func TestMemory(t *testing.T) {
	p, commands, steps, h := examplePlan(), []int{start, stop}, []int{0, 2}, exampleHall()
	ranks := exampleRanks(t)
	arguments := func() []any {
		return []any{examplePlan(), []int{start, stop}, []int{0, 2}, exampleHall(), exampleRanks(t)}
	}
	results := func() []any {
		home, _, _ := sequence.HomeOf(p, at(start, 0), seenOn(1))
		run, _, _ := sequence.RunOf(p, at(rest, 0), api.SequenceRun{Fault: fine(), Commands: commands})
		reached, _ := sequence.ReachedIn(p, seenOn(1))
		faults, _ := sequence.FaultsOf(p)
		found, _ := sequence.RanksOf(p)
		way, _, _ := sequence.FastestWay(p, at(rest, 0), turbine)
		parsed, _ := sequence.ParsePlan(example)
		i, e := sequence.CheckRanks(p, ranks)
		broken, _ := sequence.BrokenIn(h, steps)
		rule, refused := sequence.MayEnter(h, steps, api.SequenceEntry{Step: 1})
		longest, _ := sequence.LongestHome(p)
		return []any{home, run, reached, faults, found, way, parsed, i, e, broken, rule, refused, longest, sequence.FormatPlan(p)}
	}
	given, before, after := arguments(), results(), results()
	for _, result := range after {
		switch l := result.(type) {
		case []api.SequenceState:
			spoil(l)
		case []api.SequenceFault:
			spoil(l)
		case []api.SequenceRank:
			spoil(l)
		case []int:
			spoil(l)
		case api.SequencePlan:
			for _, s := range l.Steps {
				spoil(s.Exits)
			}
			spoil(l.Signals)
			spoil(l.Steps)
		}
	}
	if again := results(); !reflect.DeepEqual(before, again) {
		t.Error(before, again)
	}
	if now := []any{p, commands, steps, h, ranks}; !reflect.DeepEqual(given, now) {
		t.Error("an argument was changed", now)
	}
}

// Within one result no two lists share memory.
func TestMemoryOfPlans(t *testing.T) {
	p := parsed(t, "a 0;x s 0 0 0 0 0,1;y s 0 0 0 0 0,1;z s 0 0 0 0 0,1")
	for i := range p.Steps {
		q := parsed(t, "a 0;x s 0 0 0 0 0,1;y s 0 0 0 0 0,1;z s 0 0 0 0 0,1")
		spoil(q.Steps[i].Exits)
		for k := range q.Steps {
			if k != i && !slices.Equal(q.Steps[k].Exits, p.Steps[k].Exits) {
				t.Error(i, k, q)
			}
		}
	}
}
