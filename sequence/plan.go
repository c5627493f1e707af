package sequence

import (
	"slices"

	"guidevane/api"
)

// plan is a plan that was checked.
type plan struct{ api.SequencePlan }

// CheckPlan returns the error of a plan, with the index of the step.
func CheckPlan(p api.SequencePlan) (int, api.Errno) {
	if e := first(
		checkMost(p.Signals, api.MaxSequenceSignals),
		checkEach(p.Signals, newNames()),
		checkSet(p.Start, len(p.Signals)),
		unless(len(p.Steps) > 0, api.ErrShape),
		checkMost(p.Steps, api.MaxSequenceSteps)); e != api.OK {
		return 0, e
	}
	checkName := newNames()
	checkNamed := func(s api.SequenceStep) api.Errno {
		return first(checkName(s.Name), checkStep(p, s))
	}
	if i, e := firstItem(p.Steps, checkNamed); e != api.OK {
		return i, e
	}
	return 0, unless(p.Steps[0].Safe, api.ErrState)
}

// CheckState returns the error of a state.
func CheckState(p api.SequencePlan, s api.SequenceState) api.Errno {
	checked, e := planOf(p)
	return first(e, checked.checkState(s))
}

// CheckFault returns the error of a fault.
func CheckFault(p api.SequencePlan, f api.SequenceFault) api.Errno {
	checked, e := planOf(p)
	return first(e, checked.checkFault(f))
}

// FaultsOf returns the faults of a plan.
func FaultsOf(p api.SequencePlan) ([]api.SequenceFault, api.Errno) {
	checked, e := planOf(p)
	if e != api.OK {
		return nil, e
	}
	return checked.faults(), api.OK
}

func planOf(p api.SequencePlan) (plan, api.Errno) {
	if _, e := CheckPlan(p); e != api.OK {
		return plan{}, e
	}
	return plan{p}, api.OK
}

// checkStep returns the error of a step, apart from its name.
func checkStep(p api.SequencePlan, s api.SequenceStep) api.Errno {
	e := first(
		checkSet(s.Needs, len(p.Signals)),
		checkIndex(s.Trip, len(p.Steps)),
		checkWithin(s.Wait, 0, api.MaxSequenceWait))
	switch {
	case e != api.OK:
		return e
	case isSteady(s):
		return checkSteady(s, len(p.Steps))
	}
	return checkMoving(p, s)
}

func isSteady(s api.SequenceStep) bool {
	return s.Wait == 0
}

// checkSteady returns the error of what only a steady step may have, and of what it must not have, in a plan with so many steps.
func checkSteady(s api.SequenceStep, steps int) api.Errno {
	ofMoving := [7]int{s.On, s.Off, s.MakesOn, s.MakesOff, s.Time, s.Next, s.Back}
	before := none
	checkExit := func(exit int) api.Errno {
		e := first(checkIndex(exit, steps), unless(before < exit, api.ErrOrder))
		before = exit
		return e
	}
	isDeadEnd := len(s.Exits) == 0 && s.Home == 0
	return first(
		unless(ofMoving == [7]int{}, api.ErrForm),
		checkEach(s.Exits, checkExit),
		unless(isDeadEnd || slices.Contains(s.Exits, s.Home), api.ErrOpen))
}

// checkMoving returns the error of what only a moving step may have, and of what it must not have.
func checkMoving(p api.SequencePlan, s api.SequenceStep) api.Errno {
	signals, steps := len(p.Signals), len(p.Steps)
	return first(
		unless(!s.Safe && s.Home == 0 && len(s.Exits) == 0, api.ErrForm),
		checkSet(s.On, signals),
		checkSet(s.Off, signals),
		checkSet(s.MakesOn, signals),
		checkSet(s.MakesOff, signals),
		unless(s.On&s.Off == 0 && s.MakesOn&s.MakesOff == 0, api.ErrClash),
		checkWithin(s.Time, 1, s.Wait),
		checkIndex(s.Next, steps),
		checkIndex(s.Back, steps))
}

func (p plan) checkState(s api.SequenceState) api.Errno {
	return first(checkIndex(s.Step, len(p.Steps)), checkSet(s.Signals, len(p.Signals)))
}

func (p plan) checkFault(f api.SequenceFault) api.Errno {
	return first(
		checkWithin(f.Signal, none, len(p.Signals)-1),
		unless(f.Signal != none || !f.On, api.ErrForm))
}

// begin returns the first state.
func (p plan) begin() api.SequenceState {
	return api.SequenceState{Signals: p.Start}
}

// states returns the number of all states, reached or not.
func (p plan) states() int {
	return len(p.Steps) << len(p.Signals)
}

func noFault() api.SequenceFault {
	return api.SequenceFault{Signal: none}
}

func (p plan) faults() []api.SequenceFault {
	faults := []api.SequenceFault{noFault()}
	for signal := range p.Signals {
		faults = append(faults, api.SequenceFault{Signal: signal}, api.SequenceFault{Signal: signal, On: true})
	}
	return faults
}
