package sequence_test

import (
	"math"
	"slices"
	"strconv"
	"testing"

	"guidevane/api"
	"guidevane/sequence"
)

// example is the string of the plan of the examples.
const example = "open speed 0;rest s 0 0 0 1 1;start - 0 3 60 3 0 3 0 30 2 3;turbine - 2 3 0 3 3;stop - 0 3 40 0 2 0 3 20 0 4;brake - 0 4 90 0 1 0 3 50 0 0"

// The signals and the steps of the plan of the examples.
const (
	open  = 1
	speed = 2

	rest    = 0
	start   = 1
	turbine = 2
	stop    = 3
	brake   = 4
)

// examplePlan is the plan of the examples.
func examplePlan() api.SequencePlan {
	return api.SequencePlan{
		Signals: []string{"open", "speed"},
		Steps: []api.SequenceStep{
			{Name: "rest", Safe: true, Exits: []int{start}, Home: start},
			{Name: "start", Wait: 60, Time: 30, MakesOn: open + speed, On: open + speed, Next: turbine, Back: stop, Trip: stop},
			{Name: "turbine", Needs: speed, Trip: stop, Exits: []int{stop}, Home: stop},
			{Name: "stop", Wait: 40, Time: 20, MakesOff: open + speed, Off: speed, Next: rest, Back: brake, Trip: stop},
			{Name: "brake", Wait: 90, Time: 50, MakesOff: open + speed, Off: open, Next: rest, Back: rest, Trip: brake},
		},
	}
}

// edited returns the plan of the examples with a change.
func edited(change func(p *api.SequencePlan)) api.SequencePlan {
	p := examplePlan()
	change(&p)
	return p
}

// planOf returns a plan with so many signals, and steps that may be named here.
func planOf(signals, start int, steps ...api.SequenceStep) api.SequencePlan {
	p := api.SequencePlan{Start: start, Steps: steps}
	for i := range signals {
		p.Signals = append(p.Signals, "x"+strconv.Itoa(i))
	}
	for i := range p.Steps {
		if p.Steps[i].Name == "" {
			p.Steps[i].Name = "s" + strconv.Itoa(i)
		}
	}
	return p
}

// sized returns a plan with so many signals and steps, all of which are safe.
func sized(signals, steps int) api.SequencePlan {
	return planOf(signals, 0, slices.Repeat([]api.SequenceStep{{Safe: true}}, steps)...)
}

func parsed(t *testing.T, s string) api.SequencePlan {
	t.Helper()
	p, e := sequence.ParsePlan(s)
	if e != api.OK {
		t.Fatal(s, e)
	}
	return p
}

// at is a state.
func at(step, signals int) api.SequenceState {
	return api.SequenceState{Step: step, Signals: signals}
}

// path is states: steps and signals by turns.
func path(numbers ...int) []api.SequenceState {
	var l []api.SequenceState
	for i := 0; i < len(numbers); i += 2 {
		l = append(l, at(numbers[i], numbers[i+1]))
	}
	return l
}

// fine is no fault.
func fine() api.SequenceFault { return api.SequenceFault{Signal: -1} }

// seenOn is the fault that a signal is seen as on.
func seenOn(signal int) api.SequenceFault { return api.SequenceFault{Signal: signal, On: true} }

// seenOff is the fault that a signal is seen as off.
func seenOff(signal int) api.SequenceFault { return api.SequenceFault{Signal: signal} }

// outside is numbers around a range that are not in it.
func outside(lo, hi int) []int {
	return []int{lo - 1, hi + 1, lo - 2, hi + 1000, math.MinInt, math.MaxInt}
}

// badNames are no names.
func badNames() []string {
	return []string{"", " ", "abcdefghijklm", "1a", "-", "-a", "a b", " a", "a ", "a_", "a\u00e9", "\u00e9", "@", "[", "`", "{", "a@", "a[", "a`", "a{", "a/", "a:", "a\x00", "a;", "a,", "\xff"}
}

type badPlan struct {
	plan  api.SequencePlan
	index int
	want  api.Errno
}

// badPlans returns plans for each error of CheckPlan, and for each order of two errors.
func badPlans() []badPlan {
	return slices.Concat(badSignals(), badNumbersOfSteps(), badSteps(), badSteadySteps(), badMovingSteps())
}

func badSignals() []badPlan {
	var l []badPlan
	add := func(want api.Errno, change func(p *api.SequencePlan)) {
		l = append(l, badPlan{edited(change), 0, want})
	}
	add(api.ErrLarge, func(p *api.SequencePlan) { p.Signals = sized(6, 1).Signals })
	add(api.ErrLarge, func(p *api.SequencePlan) { p.Signals = make([]string, 6) })
	add(api.ErrLarge, func(p *api.SequencePlan) { p.Signals = make([]string, 70) })
	add(api.ErrLarge, func(p *api.SequencePlan) { p.Signals = sized(1000, 1).Signals })
	for _, name := range badNames() {
		for i := range 2 {
			add(api.ErrName, func(p *api.SequencePlan) { p.Signals[i] = name })
			add(api.ErrName, func(p *api.SequencePlan) { p.Signals[i], p.Start, p.Steps = name, -1, nil })
		}
		add(api.ErrName, func(p *api.SequencePlan) { p.Signals = []string{name, name} })
		add(api.ErrName, func(p *api.SequencePlan) { p.Signals = []string{"a", name, "a"} })
		add(api.ErrExists, func(p *api.SequencePlan) { p.Signals = []string{"a", "a", name} })
	}
	add(api.ErrExists, func(p *api.SequencePlan) { p.Signals[1] = "open" })
	add(api.ErrExists, func(p *api.SequencePlan) { p.Signals = []string{"a", "b", "c", "d", "a"} })
	add(api.ErrExists, func(p *api.SequencePlan) { p.Signals, p.Start = []string{"a", "b", "b"}, -1 })
	for _, n := range outside(0, 3) {
		add(api.ErrRange, func(p *api.SequencePlan) { p.Start = n })
		add(api.ErrRange, func(p *api.SequencePlan) { p.Start, p.Steps = n, nil })
		add(api.ErrRange, func(p *api.SequencePlan) { p.Start, p.Steps[0].Name = n, "" })
	}
	for _, n := range outside(0, 0) {
		l = append(l, badPlan{planOf(0, n, sized(0, 1).Steps...), 0, api.ErrRange})
	}
	for _, n := range outside(0, 31) {
		l = append(l, badPlan{planOf(5, n, sized(0, 1).Steps...), 0, api.ErrRange})
	}
	return l
}

func badNumbersOfSteps() []badPlan {
	l := []badPlan{
		{api.SequencePlan{}, 0, api.ErrShape},
		{sized(5, 0), 0, api.ErrShape},
		{sized(5, 11), 0, api.ErrLarge},
		{sized(0, 1000), 0, api.ErrLarge},
		{api.SequencePlan{Steps: make([]api.SequenceStep, 11)}, 0, api.ErrLarge},
	}
	l = append(l, badPlan{edited(func(p *api.SequencePlan) { p.Steps = []api.SequenceStep{} }), 0, api.ErrShape})
	// The step 0 is not safe, but all other errors come first.
	l = append(l,
		badPlan{edited(func(p *api.SequencePlan) { p.Steps[0].Safe = false }), 0, api.ErrState},
		badPlan{edited(func(p *api.SequencePlan) { p.Steps[0] = p.Steps[4]; p.Steps[0].Name, p.Steps[0].Trip = "x", 0 }), 0, api.ErrState},
		badPlan{edited(func(p *api.SequencePlan) { p.Steps[0].Safe, p.Steps[4].Back = false, 5 }), 4, api.ErrMissing},
		badPlan{edited(func(p *api.SequencePlan) { p.Steps[0].Safe, p.Steps[1].Name = false, "" }), 1, api.ErrName},
		badPlan{edited(func(p *api.SequencePlan) { p.Steps[0].Safe, p.Steps[2].Home = false, 1 }), 2, api.ErrOpen},
		badPlan{planOf(0, 0, api.SequenceStep{}), 0, api.ErrState},
		badPlan{planOf(0, 0, api.SequenceStep{}, api.SequenceStep{Safe: true}), 0, api.ErrState})
	return l
}

// badSteps returns errors that steady and moving steps have in common.
func badSteps() []badPlan {
	var l []badPlan
	for i := range 5 {
		add := func(want api.Errno, change func(s *api.SequenceStep)) {
			l = append(l, badPlan{edited(func(p *api.SequencePlan) { change(&p.Steps[i]) }), i, want})
		}
		for _, name := range badNames() {
			add(api.ErrName, func(s *api.SequenceStep) { s.Name = name })
			add(api.ErrName, func(s *api.SequenceStep) { s.Name, s.Needs, s.Trip, s.Wait = name, -1, -1, -1 })
		}
		for earlier := range i {
			exists := func(s *api.SequenceStep) { s.Name = examplePlan().Steps[earlier].Name }
			add(api.ErrExists, exists)
			add(api.ErrExists, func(s *api.SequenceStep) { exists(s); s.Needs, s.Trip, s.Wait = 4, 5, -1 })
			// An error of an earlier step comes first.
			both := edited(func(p *api.SequencePlan) { p.Steps[earlier].Wait = -1; exists(&p.Steps[i]) })
			l = append(l, badPlan{both, earlier, api.ErrRange})
		}
		for _, n := range outside(0, 3) {
			add(api.ErrRange, func(s *api.SequenceStep) { s.Needs = n })
			add(api.ErrRange, func(s *api.SequenceStep) { s.Needs, s.Trip = n, 5 })
		}
		for _, n := range outside(0, 4) {
			add(api.ErrMissing, func(s *api.SequenceStep) { s.Trip = n })
			add(api.ErrMissing, func(s *api.SequenceStep) { s.Trip, s.Wait = n, -1 })
			add(api.ErrMissing, func(s *api.SequenceStep) { s.Trip, s.Home, s.Next, s.Safe = n, 9, 9, true })
		}
		for _, n := range outside(0, 10000) {
			add(api.ErrRange, func(s *api.SequenceStep) { s.Wait = n })
			add(api.ErrRange, func(s *api.SequenceStep) { s.Wait, s.Home, s.Next, s.Safe = n, 9, 9, true })
			add(api.ErrRange, func(s *api.SequenceStep) { *s = api.SequenceStep{Name: s.Name, Safe: true, Wait: n} })
		}
	}
	return l
}

func badSteadySteps() []badPlan {
	var l []badPlan
	for _, i := range []int{rest, turbine} {
		add := func(want api.Errno, change func(s *api.SequenceStep)) {
			l = append(l, badPlan{edited(func(p *api.SequencePlan) { change(&p.Steps[i]) }), i, want})
		}
		for _, n := range []int{1, -1, 3, 4, math.MinInt, math.MaxInt} {
			for _, change := range []func(s *api.SequenceStep){
				func(s *api.SequenceStep) { s.On = n },
				func(s *api.SequenceStep) { s.Off = n },
				func(s *api.SequenceStep) { s.MakesOn = n },
				func(s *api.SequenceStep) { s.MakesOff = n },
				func(s *api.SequenceStep) { s.Time = n },
				func(s *api.SequenceStep) { s.Next = n },
				func(s *api.SequenceStep) { s.Back = n },
			} {
				add(api.ErrForm, change)
				add(api.ErrForm, func(s *api.SequenceStep) { change(s); s.Exits = []int{5, 5} })
				add(api.ErrForm, func(s *api.SequenceStep) { change(s); s.Home = 7 })
			}
		}
		exits := func(want api.Errno, home int, exits ...int) {
			add(want, func(s *api.SequenceStep) { s.Home, s.Exits = home, exits })
		}
		for _, n := range outside(0, 4) {
			exits(api.ErrMissing, 1, 1, n)
			exits(api.ErrMissing, n, n)
			exits(api.ErrMissing, 3, n, 3, 3)
			exits(api.ErrMissing, 4, 4, n, 3)
			exits(api.ErrOrder, 1, 1, 1, n)
			exits(api.ErrOpen, n, 1, 3)
			exits(api.ErrOpen, n)
		}
		exits(api.ErrOrder, 1, 1, 1)
		exits(api.ErrOrder, 0, 0, 0)
		exits(api.ErrOrder, 1, 0, 2, 1)
		exits(api.ErrOrder, 4, 4, 0)
		exits(api.ErrOrder, 9, 2, 1)
		exits(api.ErrOrder, 1, 0, 1, 2, 3, 4, 4)
		exits(api.ErrOpen, 0, 1)
		exits(api.ErrOpen, 0, 1, 2, 3, 4)
		exits(api.ErrOpen, 2, 1, 3)
		exits(api.ErrOpen, 1, 0)
		exits(api.ErrOpen, 1)
	}
	return l
}

func badMovingSteps() []badPlan {
	var l []badPlan
	for _, i := range []int{start, stop, brake} {
		add := func(want api.Errno, change func(s *api.SequenceStep)) {
			l = append(l, badPlan{edited(func(p *api.SequencePlan) { change(&p.Steps[i]) }), i, want})
		}
		for _, change := range []func(s *api.SequenceStep){
			func(s *api.SequenceStep) { s.Safe = true },
			func(s *api.SequenceStep) { s.Home = 1 },
			func(s *api.SequenceStep) { s.Home = -1 },
			func(s *api.SequenceStep) { s.Exits = []int{0} },
			func(s *api.SequenceStep) { s.Exits, s.Home = []int{1, 2}, 1 },
			func(s *api.SequenceStep) { s.Exits = []int{9} },
		} {
			add(api.ErrForm, change)
			add(api.ErrForm, func(s *api.SequenceStep) { change(s); s.On, s.Time, s.Next = 4, 0, 5 })
			add(api.ErrForm, func(s *api.SequenceStep) { change(s); s.On, s.Off = 1, 1 })
		}
		for _, n := range outside(0, 3) {
			for _, change := range []func(s *api.SequenceStep){
				func(s *api.SequenceStep) { s.On = n },
				func(s *api.SequenceStep) { s.Off = n },
				func(s *api.SequenceStep) { s.MakesOn = n },
				func(s *api.SequenceStep) { s.MakesOff = n },
			} {
				add(api.ErrRange, func(s *api.SequenceStep) { s.On, s.Off, s.MakesOn, s.MakesOff = 0, 0, 0, 0; change(s) })
				add(api.ErrRange, func(s *api.SequenceStep) { s.On, s.Off, s.MakesOn, s.MakesOff = 3, 3, 3, 3; change(s) })
				add(api.ErrRange, func(s *api.SequenceStep) { change(s); s.Time, s.Next, s.Back = 0, 5, 5 })
			}
		}
		for _, n := range []int{1, 2, 3} {
			for _, change := range []func(s *api.SequenceStep){
				func(s *api.SequenceStep) { s.On, s.Off = n, 3 },
				func(s *api.SequenceStep) { s.On, s.Off = 3, n },
				func(s *api.SequenceStep) { s.MakesOn, s.MakesOff = n, 3 },
				func(s *api.SequenceStep) { s.MakesOn, s.MakesOff = 3, n },
			} {
				add(api.ErrClash, change)
				add(api.ErrClash, func(s *api.SequenceStep) { change(s); s.Time, s.Next, s.Back = 0, 5, 5 })
			}
		}
		for _, n := range outside(1, examplePlan().Steps[i].Wait) {
			add(api.ErrRange, func(s *api.SequenceStep) { s.Time = n })
			add(api.ErrRange, func(s *api.SequenceStep) { s.Time, s.Next, s.Back = n, 5, 5 })
		}
		for _, n := range outside(0, 4) {
			add(api.ErrMissing, func(s *api.SequenceStep) { s.Next = n })
			add(api.ErrMissing, func(s *api.SequenceStep) { s.Back = n })
		}
	}
	return l
}

// goodPlans returns plans at the limits.
func goodPlans() []api.SequencePlan {
	steps := func(change func(l []api.SequenceStep)) api.SequencePlan {
		return edited(func(p *api.SequencePlan) { change(p.Steps) })
	}
	return []api.SequencePlan{
		examplePlan(), sized(0, 1), sized(5, 10), sized(5, 1), sized(0, 10),
		planOf(5, 31, api.SequenceStep{Safe: true, Needs: 31}, api.SequenceStep{Wait: 10000, Time: 10000, Needs: 31, On: 31, MakesOn: 31}, api.SequenceStep{Wait: 1, Time: 1, Off: 31, MakesOff: 31}),
		edited(func(p *api.SequencePlan) { p.Signals = []string{"aZ09-zA-----", "rest"} }),
		edited(func(p *api.SequencePlan) { p.Signals, p.Start = []string{"z", "Z"}, 3 }),
		steps(func(l []api.SequenceStep) { l[0].Name, l[1].Name, l[2].Name = "open", "aZ09-zA-----", "A" }),
		steps(func(l []api.SequenceStep) { l[1].Name, l[2].Name = "resT", "rest-" }),
		steps(func(l []api.SequenceStep) { l[0].Exits, l[0].Home = []int{0, 1, 2, 3, 4}, 4 }),
		steps(func(l []api.SequenceStep) { l[0].Exits, l[0].Home = []int{0, 4}, 0 }),
		steps(func(l []api.SequenceStep) { l[0].Exits, l[0].Home = nil, 0 }),
		steps(func(l []api.SequenceStep) { l[2].Exits, l[2].Home = []int{}, 0 }),
		steps(func(l []api.SequenceStep) { l[2].Exits, l[2].Home, l[2].Safe = []int{2}, 2, true }),
		steps(func(l []api.SequenceStep) { l[1].On, l[1].MakesOn, l[1].Off, l[1].MakesOff = 1, 2, 2, 1 }),
		steps(func(l []api.SequenceStep) { l[1].On, l[1].MakesOn, l[1].Off, l[1].MakesOff = 0, 0, 0, 0 }),
		steps(func(l []api.SequenceStep) { l[1].Time, l[1].Next, l[1].Back, l[1].Trip = 60, 4, 4, 4 }),
		steps(func(l []api.SequenceStep) { l[1].Time, l[1].Next, l[1].Back, l[1].Trip = 1, 0, 1, 1 }),
	}
}

// P7.1.
func TestCheckPlan(t *testing.T) {
	for _, c := range badPlans() {
		if i, e := sequence.CheckPlan(c.plan); i != c.index || e != c.want {
			t.Errorf("%+v: %v %v, want %v %v", c.plan, i, e, c.index, c.want)
		}
	}
	for _, p := range goodPlans() {
		if i, e := sequence.CheckPlan(p); i != 0 || e != api.OK {
			t.Errorf("%+v: %v %v", p, i, e)
		}
	}
}

type badState struct {
	state api.SequenceState
	want  api.Errno
}

// badStates returns states that the plan of the examples does not have.
func badStates() []badState {
	var l []badState
	for _, n := range outside(0, 4) {
		l = append(l, badState{at(n, 0), api.ErrMissing}, badState{at(n, -1), api.ErrMissing}, badState{at(n, 4), api.ErrMissing})
	}
	for _, n := range outside(0, 3) {
		for step := range 5 {
			l = append(l, badState{at(step, n), api.ErrRange})
		}
	}
	return l
}

type badFault struct {
	fault api.SequenceFault
	want  api.Errno
}

// badFaults returns faults that the plan of the examples does not have.
func badFaults() []badFault {
	l := []badFault{{seenOn(-1), api.ErrForm}}
	for _, n := range outside(-1, 1) {
		l = append(l, badFault{seenOn(n), api.ErrRange}, badFault{seenOff(n), api.ErrRange})
	}
	return l
}

// P7.1.
func TestCheckStateAndFault(t *testing.T) {
	p := examplePlan()
	for _, c := range badStates() {
		if e := sequence.CheckState(p, c.state); e != c.want {
			t.Error(c, e)
		}
	}
	for _, c := range badFaults() {
		if e := sequence.CheckFault(p, c.fault); e != c.want {
			t.Error(c, e)
		}
	}
	for _, p := range goodPlans() {
		for _, s := range allStates(p) {
			if e := sequence.CheckState(p, s); e != api.OK {
				t.Error(p, s, e)
			}
		}
		for _, f := range modelFaults(p) {
			if e := sequence.CheckFault(p, f); e != api.OK {
				t.Error(p, f, e)
			}
		}
	}
	// Without signals there is one set, and one fault.
	none := sized(0, 1)
	for _, n := range outside(0, 0) {
		if e := sequence.CheckState(none, at(0, n)); e != api.ErrRange {
			t.Error(n, e)
		}
	}
	for _, n := range outside(-1, -1) {
		if e := sequence.CheckFault(none, seenOff(n)); e != api.ErrRange {
			t.Error(n, e)
		}
	}
}

// P7.4, edge case: a plan without signals has one fault.
func TestFaultsOf(t *testing.T) {
	for _, c := range []struct {
		plan api.SequencePlan
		want []api.SequenceFault
	}{
		{examplePlan(), []api.SequenceFault{fine(), seenOff(0), seenOn(0), seenOff(1), seenOn(1)}},
		{sized(0, 10), []api.SequenceFault{fine()}},
		{sized(1, 1), []api.SequenceFault{fine(), seenOff(0), seenOn(0)}},
		{sized(5, 1), []api.SequenceFault{fine(), seenOff(0), seenOn(0), seenOff(1), seenOn(1), seenOff(2), seenOn(2), seenOff(3), seenOn(3), seenOff(4), seenOn(4)}},
	} {
		if l, e := sequence.FaultsOf(c.plan); !slices.Equal(l, c.want) || e != api.OK {
			t.Error(c, l, e)
		}
	}
}
